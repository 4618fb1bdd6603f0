
/-
 Lists of fractions by their words: copied, compared; whether one is greater than is looked at.
-/
import Derived.Test.YtfnngcaalpknlaaGreatVref5
import Derived.Test.YtfnngcaalpknlaaGreatVecLinW


namespace Go.Proofs.YtfnngcaalpknlaaGreat
open Go.RowKit Go.Proofs.YtfnngcaalpknlaaGreat.Num
set_option linter.unusedVariables false
set_option linter.unusedSimpArgs false
set_option maxRecDepth 100000
def Fl (W : World) (v : Value) (d : List Rx) (zs : List Zt) (L : Nat) : Prop := Lr er 3 W v d ∧ d.length = zs.length ∧ ∀ (i : Nat) x z, d[i]? = some x → zs[i]? = some z → Zf W x z L
theorem Fl.step {W W' : World} {v : Value} {d : List Rx} {zs : List Zt} {L : Nat} (h : Fl W v d zs L) (hb : Below W.heap.size W W') : Fl W' v d zs L :=
 ⟨h.1.step hb, h.2.1, fun i x z hx hz => (h.2.2 i x z hx hz).step hb⟩
theorem Fl.fv {W : World} {v : Value} {d : List Rx} {zs : List Zt} {L : Nat} (h : Fl W v d zs L) : Fv W v d L := ⟨h.1, fun x hx => by
 obtain ⟨i, hi, rfl⟩ := List.mem_iff_getElem.1 hx
 have hx' : d[i]? = some d[i] := List.getElem?_eq_getElem hi
 obtain ⟨z, hz⟩ := zs_at h.2.1 hx'
 exact (h.2.2 i _ z hx' hz).ra⟩
theorem Fl.xf {W W' : World} {v v' : Value} {d f : List Rx} {zs : List Zt} {L M : Nat} (h : Fl W v d zs L) (k : Fl W' v' f zs M) : xf d = xf f := by
 funext i
 unfold Go.Proofs.YtfnngcaalpknlaaGreat.xf
 by_cases h0 : 0 ≤ i
 ·rw [if_pos h0, if_pos h0]
  by_cases hi : i.toNat < d.length
  ·obtain ⟨x, hx⟩ := len_of hi
   obtain ⟨z, hz⟩ := zs_at h.2.1 hx
   obtain ⟨y, hy⟩ := len_of (d := f) (k := i.toNat) (by have := h.2.1; have := k.2.1; omega)
   rw [hx, hy]
   exact (h.2.2 _ x z hx hz).2.1.trans (k.2.2 _ y z hy hz).2.1.symm
  ·rw [List.getElem?_eq_none (by omega), List.getElem?_eq_none (by have := h.2.1; have := k.2.1; omega)]
 ·rw [if_neg h0, if_neg h0]
theorem fl_of {W : World} {v : Value} {d : List Rx} {L : Nat} (h : Fv W v d L) : ∃ zs, Fl W v d zs L := by
 obtain ⟨zs, hl, hz⟩ := list_choose (P := fun (x : Rx) (z : Zt) => Zf W x z L) d (fun x hx => by
  obtain ⟨z, h1, h2⟩ := zf_of (h.2 x hx) 0
  exact ⟨z, h2⟩)
 exact ⟨zs, h.1, hl, hz⟩
theorem Fv.tight {W : World} {v : Value} {d : List Rx} {L : Nat} (h : Fv W v d L) (hs : ∀ x ∈ d, x.u.2.1 + x.t.2.1 ≤ 6) : Fv W v d 6 :=
 ⟨h.1, fun x hx => (h.2 x hx).tight (by have := hs x hx; omega) (by have := hs x hx; omega)⟩
def Fo (W : World) (B : Nat) (v : Value) (d : List Rx) (zs : List Zt) (L : Nat) : Prop := Ow 42 er 3 W B v d ∧ d.length = zs.length ∧ ∀ (i : Nat) x z, d[i]? = some x → zs[i]? = some z → Zg W B x z L
theorem Fo.step {W W' : World} {B : Nat} {v : Value} {d : List Rx} {zs : List Zt} {L : Nat} (h : Fo W B v d zs L) (hb : Below W.heap.size W W') : Fo W' B v d zs L :=
 ⟨h.1.step hb, h.2.1, fun i x z hx hz => (h.2.2 i x z hx hz).step hb⟩
theorem Fo.fl {W : World} {B : Nat} {v : Value} {d : List Rx} {zs : List Zt} {L : Nat} (h : Fo W B v d zs L) : Fl W v d zs L :=
 ⟨h.1.rl er_len, h.2.1, fun i x z hx hz => (h.2.2 i x z hx hz).1⟩
theorem Fo.push {W W' : World} {B L : Nat} {v v' : Value} {d : List Rx} {zs : List Zt} {x : Rx} {z : Zt} (T : Fo W B v d zs L) (ho : Ow 42 er 3 W' B v' (d ++ [x])) (hg : W.grownBy W' v.ownBlock) (hx : Zg W B x z L) : Fo W' B v' (d ++ [x]) (zs ++ [z]) L := by
 refine ⟨ho, by simp [T.2.1], fun i y u hy hu => ?_⟩
 by_cases hi : i < d.length
 ·rw [List.getElem?_append_left hi] at hy
  rw [List.getElem?_append_left (by have := T.2.1; omega)] at hu
  exact (T.2.2 i y u hy hu).grownT hg (fun g e => T.1.ot3 g e)
 ·rw [List.getElem?_append_right (by omega)] at hy
  rw [List.getElem?_append_right (by have := T.2.1; omega), ← T.2.1] at hu
  have hj : i - d.length = 0 := by
   have := (List.getElem?_eq_some_iff.1 hy).1
   simp at this
   omega
  rw [hj] at hy hu
  simp at hy hu
  subst hy hu
  exact hx.grownT hg (fun g e => T.1.ot3 g e)
def E3 (W : World) (A : Option Addr) (j : Nat) (x : Rx) : Prop := ∃ b off, A = some ⟨b, off, none⟩ ∧ W.cell? ⟨b, off + j, none⟩ = some (.bool x.s) ∧ W.cell? ⟨b, off + j + 1, none⟩ = some (sv x.u) ∧ W.cell? ⟨b, off + j + 2, none⟩ = some (sv x.t)
theorem E3.of {W : World} {A : Option Addr} {n c k : Nat} {d : List Rx} {x : Rx} (h : Lr er 3 W (.slice A n c) d) (hx : d[k]? = some x) : E3 W A (k * 3) x := by
 obtain ⟨b, off, rfl, hb, hc⟩ := h.get hx
 exact ⟨b, off, rfl, by have := hc 0 _ rfl; rwa [Nat.add_zero] at this, hc 1 _ rfl, hc 2 _ rfl⟩
theorem E3.cells {W : World} {b off j : Nat} {x : Rx} (h : E3 W (some ⟨b, off, none⟩) j x) : W.cell? ⟨b, off + j, none⟩ = some (.bool x.s) ∧ W.cell? ⟨b, off + j + 1, none⟩ = some (sv x.u) ∧ W.cell? ⟨b, off + j + 2, none⟩ = some (sv x.t) := by
 obtain ⟨b', off', e, h⟩ := h
 injection e with e
 injection e with e1 e2
 subst e1 e2
 exact h
set_option maxHeartbeats 8000000 in
theorem copyall_v {w : World} {v : Value} {d : List Rx} {zs : List Zt} {L : Nat} (hv : Fl w v d zs L) (hL : L ≤ 17592186044000) (hn : d.length ≤ 1000000) :
  Calls Tryz.prog 25 #[v] w fun e w' => ∃ v' d', e = .returned v' ∧ Fo w' w.heap.size v' d' zs L ∧ Below w.heap.size w w' := by
 obtain ⟨i0, hi, hz0, hz1, hz2⟩ := info_parts info_rt
 obtain ⟨A, c, e1, hc1, hc2, hc3⟩ := id hv.1
 obtain ⟨n, hlen⟩ : ∃ n, n = d.length := ⟨_, rfl⟩
 rw [← hlen] at e1 hc1
 subst e1
 have b0 := alloc_below w (.cells #[] 42)
 have HV := hide hv
 have T0 := hide (show Fo (w.alloc (.cells #[] 42)) w.heap.size (.slice (some ⟨w.heap.size, 0, none⟩) 0 0) [] (zs.take 0) L from ⟨Ow.lit (B := w.heap.size) er_len w 42 ([] : List Rx) #[] rfl (Nat.le_refl _) (by simp [maxLen]), by simp, fun i x z hx => by simp at hx⟩)
 have B0 := hide b0
 have DN := hide hn
 have HN := hide hlen
 have HZ := hide hv.2.1
 have HL := hide hL
 unfold maxLen at hc2
 clear hv b0 hn hc3 hlen
 go_enter Tryz.func25, Tryz.ntmps25
 go_wp2_with fail
 go_loopw [3, 4] (fun ov iv wr => ∃ (k : Nat) (os : List Rx), k ≤ n ∧ iv = .int .i64 (k : Int) ∧ Hid (os.length = k) ∧ Hid (Below w.heap.size w wr) ∧ Hid (Fo wr w.heap.size ov os (zs.take k) L)) (fun _ iv _ => n - (intOf iv).toNat)
 case atStart => exact ⟨0, [], Nat.zero_le _, rfl, hide rfl, B0, T0⟩
 case round =>
  obtain ⟨k, os, hk, rfl, KL, B, T⟩ := hrel
  by_cases hlt : k < n
  ·obtain ⟨x, hx⟩ := len_of (d := d) (k := k) (by rw [← HN.out]; exact hlt)
   obtain ⟨z, hz⟩ := zs_at HZ.out hx
   have HC := hide (show ∀ W, Below w.heap.size w W → E3 W A (k * 3) x from fun W h => E3.of (HV.out.1.step h) hx)
   have X5 := hide ((HV.out.2.2 k x z hx hz).step B.out)
   have HLEN := hide (show os.length + 1 ≤ 1000000000000 by have := KL.out; have := DN.out; have := HN.out; omega)
   have EZ := hide (show zs.take (k + 1) = zs.take k ++ [z] from take_snoc hz)
   have l0 : (0 : Int) ≤ (k : Int) := by omega
   have l1 : (k : Int) < (n : Int) := by omega
   obtain ⟨b, off, rfl, -⟩ := HC.out w (Below.refl _ _)
   obtain ⟨c0, c1, c2⟩ := (HC.out _ B.out).cells
   clear hx hz
   go_wp2_with fail
   refine (rcopy_w X5.out HL.out).mono ?_
   rintro e wx ⟨y, rfl, zy, bx⟩
   have T7 := hide (T.out.step bx)
   have B7 := hide (Below.step B.out B.out.size bx)
   have Z7 := hide (zy.mono (B' := w.heap.size) B.out.size)
   clear zy bx c0 c1 c2 T
   go_wp2_with (at_builtin; go_must (refine wpList_pushE rfl (.tmp 12) (.tmp 18) 23 rfl Tryz.underlying23 hi hz0 hz1 hz2 rfl (by omega) er_len er_one wx w.heap.size _ os y _ rfl T7.out.1 rfl rfl HLEN.out (by decide) B7.out.size ?_); intro v' w' ho hg; have TF := hide (T7.out.push ho hg.1 Z7.out); have CF := hide (below_own B7.out T7.out.1 hg.1 B7.out.size); clear ho hg)
   have TG := hide (show Fo w' w.heap.size v' (os ++ [y]) (zs.take (k + 1)) L by rw [EZ.out]; exact TF.out)
   have K2 := hide (show (os ++ [y]).length = k + 1 by have := KL.out; simp; omega)
   exact ⟨⟨k + 1, os ++ [y], by omega, by go_num, K2, CF, TG⟩, by simp [intOf]; omega⟩
  ·obtain rfl : k = n := by omega
   have TT := hide (show Fo wr w.heap.size _ os zs L by have h := T.out; rwa [List.take_of_length_le (by rw [← HZ.out, ← HN.out]; exact Nat.le_refl _)] at h)
   clear T
   go_wp2_with fail
   go_ret
   exact ⟨_, os, rfl, TT.out, B.out⟩
set_option maxHeartbeats 8000000 in
theorem sameall_v {w : World} {u v : Value} {d f : List Rx} {zs : List Zt} {L M : Nat} (hu : Fl w u d zs L) (hv : Fl w v f zs M) :
  Calls Tryz.prog 32 #[u, v] w fun e w' => e = .returned (.bool true) ∧ Below w.heap.size w w' := by
 obtain ⟨A, c, e1, hc1, hc2, hc3⟩ := id hu.1
 obtain ⟨D, m, e2, hd1, hd2, hd3⟩ := id hv.1
 have hl : f.length = d.length := by rw [hv.2.1, hu.2.1]
 obtain ⟨n, hlen⟩ : ∃ n, n = d.length := ⟨_, rfl⟩
 rw [hl] at e2 hd1
 rw [← hlen] at e1 e2 hc1 hd1
 subst e1 e2
 have HU := hide hu
 have HV := hide hv
 have HN := hide hlen
 have HL := hide hl
 unfold maxLen at hc2
 have t0 : ((n : Int) != (n : Int)) = false := by simp
 clear hu hv hc3 hd3 hl hlen
 go_enter Tryz.func32, Tryz.ntmps32
 go_wp2_with fail
 go_loopw [5] (fun iv wr => ∃ k : Nat, k ≤ n ∧ iv = .int .i64 (k : Int) ∧ Hid (Below w.heap.size w wr)) (fun iv _ => n - (intOf iv).toNat)
 case atStart => exact ⟨0, Nat.zero_le _, rfl, hide (Below.refl _ _)⟩
 case round =>
  obtain ⟨k, hk, rfl, B⟩ := hrel
  by_cases hlt : k < n
  ·obtain ⟨x, hx⟩ := len_of (d := d) (k := k) (by rw [← HN.out]; exact hlt)
   obtain ⟨y, hy⟩ := len_of (d := f) (k := k) (by rw [HL.out, ← HN.out]; exact hlt)
   obtain ⟨z, hz⟩ := zs_at HU.out.2.1 hx
   have b8 := (Below.refl wr.heap.size wr).drew
   have B8 := hide (Below.step B.out B.out.size b8)
   have RX := hide (((HU.out.2.2 k x z hx hz).step B.out).step b8).rl
   have RY := hide (((HV.out.2.2 k y z hy hz).step B.out).step b8).rl
   obtain ⟨b, off, rfl, hb, hc⟩ := ((HU.out.1.step B.out).step b8).get hx
   obtain ⟨b', off', rfl, hb', hc'⟩ := ((HV.out.1.step B.out).step b8).get hy
   have c0 := hc 0 _ rfl
   have c1 := hc 1 _ rfl
   have c2 := hc 2 _ rfl
   have e0 := hc' 0 _ rfl
   have e1 := hc' 1 _ rfl
   have e2 := hc' 2 _ rfl
   rw [Nat.add_zero] at c0 e0
   have l0 : (0 : Int) ≤ (k : Int) := by omega
   have l1 : (k : Int) < (n : Int) := by omega
   have P := hide (And.intro c0 (And.intro c1 (And.intro c2 (And.intro e0 (And.intro e1 e2)))))
   clear hc hc' hb hb' hx hy hz b8
   go_wp2_with fail
   go_region_held3 (fun W => W.cell? ⟨b, off + k * 3, none⟩ = some (.bool x.s) ∧ W.cell? ⟨b, off + k * 3 + 1, none⟩ = some (sv x.u) ∧ W.cell? ⟨b, off + k * 3 + 2, none⟩ = some (sv x.t) ∧ W.cell? ⟨b', off' + k * 3, none⟩ = some (.bool y.s) ∧ W.cell? ⟨b', off' + k * 3 + 1, none⟩ = some (sv y.u) ∧ W.cell? ⟨b', off' + k * 3 + 2, none⟩ = some (sv y.t))
    (exact P.out)
    (first
     | (go_at_call 28; refine Calls.mono (rsame_l RX.out RY.out) ?_; rintro e wx ⟨rfl, bx⟩; replace P := hide (And.intro (cell_keep P.out.1 bx) (And.intro (cell_keep P.out.2.1 bx) (And.intro (cell_keep P.out.2.2.1 bx) (And.intro (cell_keep P.out.2.2.2.1 bx) (And.intro (cell_keep P.out.2.2.2.2.1 bx) (cell_keep P.out.2.2.2.2.2 bx)))))); have B9 := hide (Below.step B8.out B8.out.size bx)))
   all_goals
    clear P c0 c1 c2 e0 e1 e2
    go_wp2_with fail
    exact ⟨⟨k + 1, by omega, by go_num, B9⟩, by simp [intOf]; omega⟩
  ·obtain rfl : k = n := by omega
   go_wp2_with fail
   go_ret
   exact ⟨rfl, B.out⟩
set_option maxHeartbeats 4000000 in
theorem greatall_c {w : World} {v : Value} {d : List Rx} {L : Nat} (hv : Fv w v d L) (hL : L ≤ 17592186044000) :
  Calls Tryz.prog 10 #[v] w fun e w' => Below w.heap.size w w' ∧ ∃ b : Bool, e = .returned (.bool b) ∧ (b = false → d.length ≤ 30 ∧ ∀ x ∈ d, x.u.2.1 + x.t.2.1 ≤ 6) := by
 obtain ⟨A, c, e1, hc1, hc2, hc3⟩ := id hv.1
 obtain ⟨n, hlen⟩ : ∃ n, n = d.length := ⟨_, rfl⟩
 rw [← hlen] at e1 hc1 ⊢
 subst e1
 have HV := hide hv
 have HN := hide hlen
 unfold maxLen at hc2
 clear hv hc3 hlen
 go_enter Tryz.func10, Tryz.ntmps10
 go_wp2_with fail
 go_loopw [3] (fun iv wr => ∃ (k : Nat), k ≤ n ∧ iv = .int .i64 (k : Int) ∧ Hid (Below w.heap.size w wr) ∧ Hid (∀ j x, j < k → d[j]? = some x → x.u.2.1 + x.t.2.1 ≤ 6)) (fun iv _ => n - (intOf iv).toNat)
 case atStart => exact ⟨0, Nat.zero_le _, rfl, hide (Below.refl _ _), hide (fun j x h => by omega)⟩
 case round =>
  obtain ⟨k, hk, rfl, B, P⟩ := hrel
  by_cases hlt : k < n
  ·obtain ⟨x, hx⟩ := len_of (d := d) (k := k) (by rw [← HN.out]; exact hlt)
   have RX := hide ((HV.out.2 x (List.mem_of_getElem? hx)).step B.out)
   obtain ⟨b, off, rfl, hb, hc⟩ := (HV.out.1.step B.out).get hx
   have c0 := hc 0 _ rfl
   have c1 := hc 1 _ rfl
   have c2 := hc 2 _ rfl
   rw [Nat.add_zero] at c0
   have HX := hide hx
   have l0 : (0 : Int) ≤ (k : Int) := by omega
   have l1 : (k : Int) < (n : Int) := by omega
   clear hc hb hx
   go_wp2_with fail
   refine (words_x RX.out hL).mono ?_
   rintro e w2 ⟨rfl, bx⟩
   have B2 := hide (Below.step B.out B.out.size bx)
   obtain ⟨m, hm⟩ : ∃ m, m = x.u.2.1 + x.t.2.1 := ⟨_, rfl⟩
   rw [← hm]
   have HM := hide hm
   clear bx hm
   by_cases h6 : 6 < m
   ·have t1 : decide ((6 : Int) < (m : Int)) = true := decide_eq_true (by omega)
    go_wp2_with fail
    go_ret
    exact ⟨B2.out, true, rfl, fun h => by cases h⟩
   ·have t1 : decide ((6 : Int) < (m : Int)) = false := decide_eq_false (by omega)
    go_wp2_with fail
    exact ⟨⟨k + 1, by omega, by go_num, B2, hide (fun j y hj hy => by
     by_cases h : j = k
     ·subst h
      rw [HX.out] at hy
      injection hy with hy
      subst hy
      have := HM.out
      omega
     ·exact P.out j y (by omega) hy)⟩, by simp [intOf]; omega⟩
  ·obtain rfl : k = n := by omega
   have HP := hide (show ∀ x ∈ d, x.u.2.1 + x.t.2.1 ≤ 6 from fun x hx => by
    obtain ⟨j, hj, e⟩ := List.getElem_of_mem hx
    exact P.out j x (by rw [HN.out]; exact hj) (by rw [List.getElem?_eq_getElem hj, e]))
   by_cases h30 : 30 < k
   ·have t1 : decide ((30 : Int) < (k : Int)) = true := decide_eq_true (by omega)
    go_wp2_with fail
    go_ret
    exact ⟨B.out, true, rfl, fun h => by cases h⟩
   ·have t1 : decide ((30 : Int) < (k : Int)) = false := decide_eq_false (by omega)
    have WW := hide (weight_c (HV.out.step B.out) hL)
    go_wp2_with fail
    refine WW.out.mono ?_
    rintro e w2 ⟨z, rfl, bx⟩
    have B2 := hide (Below.step B.out B.out.size bx)
    clear bx
    go_wp2_with fail
    go_ret
    exact ⟨B2.out, _, rfl, fun _ => ⟨by omega, HP.out⟩⟩
end Go.Proofs.YtfnngcaalpknlaaGreat
