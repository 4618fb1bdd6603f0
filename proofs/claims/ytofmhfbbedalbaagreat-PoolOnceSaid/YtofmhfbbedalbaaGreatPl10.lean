
/-
 The document's example of a pool: true.
-/
import Derived.Test.YtofmhfbbedalbaaGreatPl5
import Derived.Test.YtofmhfbbedalbaaGreatPl8
import Derived.Test.YtofmhfbbedalbaaGreatPl9


namespace Go.Proofs.YtofmhfbbedalbaaGreat
open Go.RowKit Go.Joins Go.Deep Go.Proofs.YtofmhfbbedalbaaGreat.Num
set_option linter.unusedVariables false
set_option linter.unusedSimpArgs false
set_option maxRecDepth 100000
theorem two_scl {W : World} {B g : Nat} {x y z : Rx} {a b c : Int} {r : Kx} {q t : Rat} (h : TwoG W B g x y z a b c) (es : r.s = (k2 g x y z).s) (sc : Scl (tms (k2 g x y z).d) (k2 g x y z).x.r (tms r.d) r.x.r)
  (hq : 0 < q) (hb : (b : Rat) = (a : Rat) * 2) (ha : q * (a : Rat) = 1) (ht : t = q * (c : Rat)) : cv r = ctv t := by
 have e1 := h.tms
 have sc2 : Scl (tms [(⟨0, x⟩ : Tx), ⟨1, y⟩]) z.r (tms r.d) r.x.r := sc
 rw [e1, hb, h.2.2.2.2] at sc2
 obtain ⟨e2, e3⟩ := scl_ctv hq rfl ha ht sc2
 show (r.s, tms r.d, r.x.r) = _
 rw [es, e2, e3]
 rfl
theorem cvs_one {l : List Cx} {c : Ct} (h : cvs l = [c]) : l.length = 1 := by
 have := congrArg List.length h
 simpa [cvs] using this
theorem map_one {os : List Kx} {c : Ct} (h : os.map cv = [c]) : os.length = 1 ∧ ∀ x ∈ os, cv x = c := by
 refine ⟨by simpa using congrArg List.length h, fun x hx => ?_⟩
 have : cv x ∈ os.map cv := List.mem_map.2 ⟨x, hx, rfl⟩
 rw [h] at this
 simpa using this
theorem lrk1 {W : World} {a : Kx} {g : Nat} (hg : W.heap.size = g) : Lr ek 5 (W.alloc (.cells #[.int .i64 a.s, sv a.v, .bool a.x.s, sv a.x.u, sv a.x.t] 29)) (.slice (some ⟨g, 0, none⟩) 1 1) [a] := by
 subst hg
 exact (Ow.lit (B := W.heap.size) ek_len W 29 [a] _ rfl (Nat.le_refl _) (by simp [maxLen])).rl ek_len
theorem lrf1 {W : World} {a : Rx} {L : Nat} (ha : Ra W (rx a) a.r L) {g : Nat} (hg : W.heap.size = g) : Fv (W.alloc (.cells #[.bool a.s, sv a.u, sv a.t] 27)) (.slice (some ⟨g, 0, none⟩) 1 1) [a] L := by
 subst hg
 exact ⟨(Ow.lit (B := W.heap.size) er_len W 27 [a] _ rfl (Nat.le_refl _) (by simp [maxLen])).rl er_len, fun k hk => by
  simp at hk
  subst hk
  exact ha.step (alloc_below _ _)⟩
theorem nbr_ctv {a : Rx} (ha : a.r = ((3 : Int) : Rat)) : nbr (xf [a]) [ctv 2] = 1 := by
 refine nbr_break ?_
 have e0 : xf [a] ((0 : Nat) : Int) = a.r := xf_in rfl
 have e1 : xf [a] 1 = 0 := xf_out [a] 1 (by simp)
 have e2 : dt (ctv 2).2.1 (xf [a]) = 3 := by
  show 1 * xf [a] 0 + (2 * xf [a] 1 + 0) = 3
  have e3 : xf [a] (0 : Int) = a.r := e0
  rw [e3, e1, ha]
  decide +kernel
 rw [e2]
 rintro (⟨_, h⟩ | ⟨h, _⟩ | ⟨h, _⟩)
 ·exact absurd (show (3 : Rat) ≤ 2 from h) (by decide +kernel)
 ·exact absurd (show (1 : Int) = 2 from h) (by decide)
 ·exact absurd (show (1 : Int) = 3 from h) (by decide)
set_option maxHeartbeats 8000000 in
theorem plspeaks_true (w : World) : Calls Tryz.prog 5 #[] w fun e w' => e = .returned (.bool true) ∧ Below w.heap.size w w' := by
 go_enter Tryz.func5, Tryz.ntmps5
 go_wp2_with fail
 refine (plnew_c w 2 651).mono ?_
 rintro e w1 ⟨g, rfl, pl, b1⟩
 have PL := hide pl
 have B := hide b1
 clear pl b1
 go_wp2_with fail
 refine (line_c w1 2 4 6 (by omega) (by omega) (by omega) (by omega) (by omega) (by omega)).mono ?_
 rintro e w2 ⟨g1, x1, y1, z1, rfl, t1, bx⟩
 have T := hide t1
 replace PL := hide (PL.out.step bx)
 replace B := hide (Below.step B.out B.out.size bx)
 clear t1 bx
 go_wp2_with fail
 refine (pladd_c (L := 6) (N := 21) (c := k2 g1 x1 y1 z1) PL.out B.out.size T.out.kv (by show 2 ≤ 100; omega) (by omega) (by show 2 * (6 + 1) + 1 + 6 ≤ 21; omega) (by omega) (by omega) (by simp)).mono ?_
 rintro e w3 ⟨o, v1, l1, r1, rfl, pl, pt, es, sc, ll, bx⟩
 have E := hide (two_scl (q := 1 / 2) (t := 3) T.out es sc (by decide +kernel) (by decide +kernel) (by decide +kernel) (by decide +kernel))
 obtain ⟨rfl, hl⟩ := put_first (c := cv r1) pt (by rw [E.out]; exact .inl rfl) (by rw [E.out]; simp [ctv])
 have L1 := hide (show cvs l1 = [ctv 3] by rw [hl, E.out])
 replace PL := hide pl
 replace B := hide (B.out.trans bx)
 clear pl pt es sc ll bx hl E T
 go_wp2_with fail
 refine (line_c w3 1 2 4 (by omega) (by omega) (by omega) (by omega) (by omega) (by omega)).mono ?_
 rintro e w4 ⟨g1, x1, y1, z1, rfl, t1, bx⟩
 have T := hide t1
 replace PL := hide (PL.out.step bx)
 replace B := hide (Below.step B.out B.out.size bx)
 clear t1 bx
 go_wp2_with fail
 refine (pladd_c (L := 6) (N := 21) (c := k2 g1 x1 y1 z1) PL.out B.out.size T.out.kv (by show 2 ≤ 100; omega) (by omega) (by show 2 * (6 + 1) + 1 + 6 ≤ 21; omega) (by omega) (by omega) (by rw [cvs_one L1.out]; omega)).mono ?_
 rintro e w5 ⟨o, v2, l2, r2, rfl, pl, pt, es, sc, ll, bx⟩
 have E := hide (two_scl (q := 1) (t := 4) T.out es sc (by decide +kernel) (by decide +kernel) (by decide +kernel) (by decide +kernel))
 rw [L1.out, E.out] at pt
 obtain ⟨rfl, hl⟩ := put_dom pt rfl (dc_ctv.2 (by decide +kernel))
 have L2 := hide hl
 replace PL := hide pl
 replace B := hide (B.out.trans bx)
 clear pl pt es sc ll bx hl E T L1
 go_wp2_with fail
 refine (line_c w5 1 2 2 (by omega) (by omega) (by omega) (by omega) (by omega) (by omega)).mono ?_
 rintro e w6 ⟨g1, x1, y1, z1, rfl, t1, bx⟩
 have T := hide t1
 replace PL := hide (PL.out.step bx)
 replace B := hide (Below.step B.out B.out.size bx)
 clear t1 bx
 go_wp2_with fail
 refine (pladd_c (L := 6) (N := 21) (c := k2 g1 x1 y1 z1) PL.out B.out.size T.out.kv (by show 2 ≤ 100; omega) (by omega) (by show 2 * (6 + 1) + 1 + 6 ≤ 21; omega) (by omega) (by omega) (by rw [cvs_one L2.out]; omega)).mono ?_
 rintro e w7 ⟨o, v3, l3, r3, rfl, pl, pt, es, sc, ll, bx⟩
 have E := hide (two_scl (q := 1) (t := 2) T.out es sc (by decide +kernel) (by decide +kernel) (by decide +kernel) (by decide +kernel))
 rw [L2.out, E.out] at pt
 obtain ⟨rfl, hl⟩ := put_rep pt rfl rfl (fun h => absurd (dc_ctv.1 h) (by decide +kernel)) (.inl rfl) (by simp [ctv])
 have L3 := hide hl
 replace PL := hide pl
 replace B := hide (B.out.trans bx)
 have LEN := hide (cvs_one hl)
 clear pl pt es sc ll bx hl E T L2
 go_wp2_with fail
 refine ((pllen_c PL.out).mono (R' := fun e w' => e = .returned (.int .i64 1) ∧ Below w7.heap.size w7 w') (fun e w' h => ⟨by rw [h.1, LEN.out]; rfl, h.2⟩)).mono ?_
 rintro e w8 ⟨rfl, bx⟩
 replace PL := hide (PL.out.step bx)
 replace B := hide (Below.step B.out B.out.size bx)
 clear bx
 go_wp2_with fail
 refine (plcuts_c PL.out (by omega) (by omega) (by rw [LEN.out]; omega)).mono ?_
 rintro e w9 ⟨vc, os, rfl, ho, hk, hm, bx⟩
 obtain ⟨A9, n9, c9, rfl⟩ := rv_sl (ho.rl ek_len)
 rw [L3.out] at hm
 have O := hide (ho.rl ek_len)
 have KS := hide (show ∀ y ∈ os, Kc w9 y 651 from fun y hy => (hk y hy).kc)
 have M1 := hide (map_one hm)
 replace PL := hide (PL.out.step bx)
 replace B := hide (Below.step B.out B.out.size bx)
 clear ho hk hm bx
 go_wp2_with fail
 refine (line_c w9 1 2 2 (by omega) (by omega) (by omega) (by omega) (by omega) (by omega)).mono ?_
 rintro e w10 ⟨g1, x1, y1, z1, rfl, t1, bx⟩
 have ba := alloc_below w10 (kbox (k2 g1 x1 y1 z1))
 have T := hide (t1.step ba)
 have LK := hide (lrk1 (a := k2 g1 x1 y1 z1) (W := w10) rfl)
 replace O := hide ((O.out.step bx).step ba)
 replace KS := hide (show ∀ y ∈ os, Kc (w10.alloc (kbox (k2 g1 x1 y1 z1))) y 651 from fun y hy => ((KS.out y hy).step bx).step ba)
 replace PL := hide ((PL.out.step bx).step ba)
 replace B := hide (Below.step (Below.step B.out B.out.size bx) (Below.step B.out B.out.size bx).size ba)
 clear t1 bx ba
 go_wp2_with fail
 generalize (w10.alloc (kbox (k2 g1 x1 y1 z1))) = w11 at *
 generalize w10.heap.size = ga at *
 have KC := hide (show Kc w11 (k2 g1 x1 y1 z1) 6 from ⟨T.out.1.tc, T.out.2.1.1, by show Fm (tms [(⟨0, x1⟩ : Tx), ⟨1, y1⟩]); rw [T.out.tms]; exact fm_ctv⟩)
 refine (csameP_c (L := 651) (M := 6) O.out LK.out KS.out (fun k hk => by simp at hk; subst hk; exact KC.out) (by rw [M1.out.1]; rfl) (fun i x y hx hy => by
  have e1 := M1.out.2 x (List.mem_of_getElem? hx)
  have e2 : y = k2 g1 x1 y1 z1 := by
   match i, hy with
   | 0, hy => exact (Option.some.inj hy).symm
   | i + 1, hy => simp at hy
  subst e2
  have e3 := T.out.tms
  refine ⟨congrArg (·.1) e1, (congrArg (·.2.1) e1).trans e3.symm, (congrArg (·.2.2) e1).trans T.out.2.2.2.2.symm⟩)).mono ?_
 rintro e w12 ⟨rfl, bx⟩
 replace PL := hide (PL.out.step bx)
 replace B := hide (Below.step B.out B.out.size bx)
 clear bx T LK O KS KC M1
 go_wp2_with fail
 refine (whole19_g w12 3 (by omega) (by omega)).mono ?_
 rintro e w13 ⟨x, rfl, hx, rx1, bx⟩
 have ba := alloc_below w13 (.cells #[.bool x.s, sv x.u, sv x.t] 27)
 have F := hide (lrf1 (a := x) (L := 6) (W := w13) rx1.ra rfl)
 have NB := hide (nbr_ctv hx)
 replace PL := hide ((PL.out.step bx).step ba)
 replace B := hide (Below.step (Below.step B.out B.out.size bx) (Below.step B.out B.out.size bx).size ba)
 clear hx rx1 bx ba
 go_wp2_with fail
 generalize (w13.alloc (.cells #[.bool x.s, sv x.u, sv x.t] 27)) = w14 at *
 generalize w13.heap.size = gf at *
 refine ((plbroken_c PL.out F.out (by omega) (by omega) (by omega) (by omega) (by rw [LEN.out]; omega)).mono (R' := fun e w' => (∃ A c, e = .returned (.slice A 1 c)) ∧ Below w14.heap.size w14 w') (fun e w' h => by
  obtain ⟨⟨A, c, he⟩, hb⟩ := h
  exact ⟨⟨A, c, by rw [he, L3.out, NB.out]⟩, hb⟩)).mono ?_
 rintro e w15 ⟨⟨A, c, rfl⟩, bx⟩
 replace B := hide (Below.step B.out B.out.size bx)
 clear bx PL F
 go_wp2_with fail
 go_ret
 exact ⟨rfl, B.out⟩
end Go.Proofs.YtofmhfbbedalbaaGreat
