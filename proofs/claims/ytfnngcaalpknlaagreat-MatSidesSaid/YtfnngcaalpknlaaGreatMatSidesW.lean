
/-
 The walk of MatSides: true.
-/
import Derived.Test.YtfnngcaalpknlaaGreatKxMatSides
import Derived.Test.YtfnngcaalpknlaaGreatBundleR
import Derived.Test.YtfnngcaalpknlaaGreatBundleS
import Derived.Test.YtfnngcaalpknlaaGreatVdot
import Derived.Test.YtfnngcaalpknlaaGreatRcmp
import Derived.Test.YtfnngcaalpknlaaGreatKdrw


namespace Go.Proofs.YtfnngcaalpknlaaGreat
open Go.RowKit Go.Proofs.YtfnngcaalpknlaaGreat.Num
set_option linter.unusedVariables false
set_option linter.unusedSimpArgs false
set_option maxRecDepth 100000
theorem Mg.mvv {W : World} {B P : Nat} {v : Value} {m : List Vx} (h : Mg W B v m P) : Mv W v m P := ⟨h.1.rl em_len, fun x hx => (h.2 x hx).tv⟩
theorem same_or {w : World} {u v : Value} {m p p2 r : List Vx} {L M : Nat} (hu : Mc w u p L) (hv : Mc w v r M) (h1 : UL m p) (h2 : UL m p2) (h3 : UR p2 r) :
  Calls Tryz.prog 18 #[u, v] w fun e w' => ∃ b : Bool, e = .returned (.bool b) ∧ (b = false → MtBad m 60) ∧ Below w.heap.size w w' := by
 have hl : r.length = p.length := by rw [h3.1, h2.1, h1.1]
 by_cases hb : MtBad m 60
 ·exact (msame_any hu hv hl).mono fun e w' ⟨⟨b, h⟩, bx⟩ => ⟨b, h, fun _ => hb, bx⟩
 ·exact (same_mt hu hv hl (sides_same h1 h2 h3 hb)).mono fun e w' ⟨h, bx⟩ => ⟨true, h, fun e => (by cases e), bx⟩
set_option maxHeartbeats 32000000 in
theorem msides_go (w : World) (v : Value) (m : List Vx) (u : Value) (f : List Rx) (t : Value) (g : List Rx) (hv : Mv w v m 17592186043904) (hu : Fv w u f 17592186043904) (ht : Fv w t g 17592186043904) :
  Calls Tryz.prog 3 #[v, u, t] w fun e w' => e = .returned (.bool true) ∧ Below w.heap.size w w' := by
 obtain ⟨A1, n1, c1, rfl⟩ := rv_sl hv.1
 obtain ⟨A2, n2, c2, rfl⟩ := rv_sl hu.1
 obtain ⟨A3, n3, c3, rfl⟩ := rv_sl ht.1
 have V := hide hv
 have U := hide hu
 have T := hide ht
 clear hv hu ht
 go_enter Tryz.func3, Tryz.ntmps3
 go_wp2_with fail
 refine (mspeaks_true w).mono ?_
 rintro e w2 ⟨rfl, bx⟩
 replace V := hide (V.out.step bx)
 replace U := hide (U.out.step bx)
 replace T := hide (T.out.step bx)
 have B := hide bx
 clear bx
 go_wp2_with fail
 refine (great_m V.out (by omega)).mono ?_
 rintro e w3 ⟨bx, p, rfl, hp⟩
 replace V := hide (V.out.step bx)
 replace U := hide (U.out.step bx)
 replace T := hide (T.out.step bx)
 replace B := hide (Below.step B.out B.out.size bx)
 have HP := hide hp
 clear bx hp
 cases p with
 | true =>
  go_wp2_with fail
  go_ret
  exact ⟨rfl, B.out⟩
 | false =>
  obtain ⟨dl, dm⟩ := HP.out rfl
  replace V := hide (V.out.tight (fun x hx => (dm x hx).2))
  have VL := hide dl
  have VM := hide (fun x hx => (dm x hx).1 : ∀ x ∈ m, x.d.length ≤ 30)
  clear dl dm HP
  go_wp2_with fail
  refine (greatall_c U.out (by omega)).mono ?_
  rintro e w4 ⟨bx, p, rfl, hp⟩
  replace V := hide (V.out.step bx)
  replace U := hide (U.out.step bx)
  replace T := hide (T.out.step bx)
  replace B := hide (Below.step B.out B.out.size bx)
  have HP := hide hp
  clear bx hp
  cases p with
  | true =>
   go_wp2_with fail
   go_ret
   exact ⟨rfl, B.out⟩
  | false =>
   obtain ⟨dl, dw⟩ := HP.out rfl
   replace U := hide (U.out.tight dw)
   have UL := hide dl
   clear dl dw HP
   go_wp2_with fail
   refine (greatall_c T.out (by omega)).mono ?_
   rintro e w5 ⟨bx, p, rfl, hp⟩
   replace V := hide (V.out.step bx)
   replace U := hide (U.out.step bx)
   replace T := hide (T.out.step bx)
   replace B := hide (Below.step B.out B.out.size bx)
   have HP := hide hp
   clear bx hp
   cases p with
   | true =>
    go_wp2_with fail
    go_ret
    exact ⟨rfl, B.out⟩
   | false =>
    obtain ⟨dl, dw⟩ := HP.out rfl
    replace T := hide (T.out.tight dw)
    have TL := hide dl
    clear dl dw HP
    have hn1 : n1 = m.length := by
     obtain ⟨_, _, e, _⟩ := V.out.1
     injection e
    have hn3 : n3 = g.length := by
     obtain ⟨_, _, e, _⟩ := T.out.1
     injection e
    have hc3 : n3 ≤ c3 ∧ c3 ≤ 9223372036854775807 := by
     obtain ⟨_, _, e, h1, h2, _⟩ := T.out.1
     unfold maxLen at h2
     injection e with e1 e2 e3
     omega
    have HN1 := hide hn1
    have HN3 := hide hn3
    have HC3 := hide hc3
    clear hn1 hn3 hc3
    go_wp2_with fail
    refine (times_m (N := 30) V.out U.out (by have := VL.out; omega) VM.out (by omega) (by omega) (by omega) (by omega) (by omega)).mono ?_
    rintro e w7 ⟨v7, l7, rfl, r7, k7, h7, bx⟩
    obtain ⟨A7, n7, c7, rfl⟩ := rv_sl r7.fv.1
    have hn7 : n7 = l7.length := by
     obtain ⟨_, _, e, _⟩ := r7.fv.1
     injection e
    have HN7 := hide (show n7 = m.length by rw [hn7, k7])
    have F7 := hide r7.fv
    have K7 := hide k7
    have H7 := hide h7
    replace V := hide (V.out.step bx)
    replace U := hide (U.out.step bx)
    replace T := hide (T.out.step bx)
    replace B := hide (Below.step B.out B.out.size bx)
    clear r7 k7 h7 bx hn7
    have hn7 : n7 ≤ 12 := by have := HN7.out; have := VL.out; omega
    have hn3 : n3 ≤ 30 := by have := HN3.out; have := TL.out; omega
    have hc3 : n3 ≤ c3 := HC3.out.1
    have hc4 : c3 ≤ 9223372036854775807 := HC3.out.2
    by_cases hgt : n7 < n3
    all_goals
     first
     | (have Y := hide (fv_take (p := n7) T.out (by have := HN3.out; omega)); have YN := hide (show n7 = (g.take n7).length ∧ n7 ≤ m.length from ⟨by rw [List.length_take]; have := HN3.out; omega, by have := HN7.out; omega⟩); have q1 : decide (n7 < n3) = true := decide_eq_true hgt; have hnc : n7 ≤ c3 := (by omega); have hcz : c3 ≠ 0 := (by omega); (obtain ⟨b3, o3, rfl⟩ : ∃ b3 o3, A3 = some ⟨b3, o3, none⟩ := (by obtain ⟨x, hx⟩ := len_of (d := g) (k := 0) (by have := HN3.out; omega); obtain ⟨b3, o3, e, _⟩ := T.out.1.get hx; exact ⟨b3, o3, e⟩)); generalize g.take n7 = gy at *)
     | (have Y := T; have YN := hide (show n3 = g.length ∧ n3 ≤ m.length from ⟨HN3.out, by have := HN7.out; omega⟩); have q1 : decide (n7 < n3) = false := decide_eq_false hgt; obtain ⟨gy, hgy⟩ : ∃ gy, g = gy := ⟨_, rfl⟩; rw [hgy] at Y YN)
     clear T hgt
     go_wp2_with fail
     refine (timest_m (N := 30) (P := 391) Y.out V.out VM.out (fun q hq => by omega) (by omega) (by have := YN.out; omega) (by omega) (by omega) (by omega) (by omega) (by omega) (by have := YN.out; omega)).mono ?_
     rintro e w8 ⟨v8, d8, rfl, t8, f8, g8, n8, bx⟩
     obtain ⟨A8, m8, c8, rfl⟩ := rv_sl t8.tv.1
     have G8 := hide (show ∀ c, 0 ≤ c → gsum (tms d8) c = sm m.length (fun i => xf gy (i : Int) * gsum (rwA m (i : Int)) c) from g8)
     have by0 := alloc_below w8 (.cells #[.slice A8 m8 c8] 28)
     have M1 := hide (show Mv (w8.alloc (.cells #[.slice A8 m8 c8] 28)) (.slice (some ⟨w8.heap.size, 0, none⟩) 1 1) [⟨(A8, m8, c8), d8⟩] 352801 from ⟨(Ow.lit (B := w8.heap.size) em_len w8 28 [(⟨(A8, m8, c8), d8⟩ : Vx)] #[.slice A8 m8 c8] rfl (Nat.le_refl _) (by simp [maxLen])).rl em_len, fun x hx => by
      simp at hx
      subst hx
      exact (t8.tv.more (by have := YN.out; have := HN3.out; have := Nat.mul_le_mul_right 392 (Nat.mul_le_mul_right 30 (show gy.length ≤ 30 by omega)); omega)).step by0⟩)
     have L8 := hide (show ∀ x ∈ [(⟨(A8, m8, c8), d8⟩ : Vx)], x.d.length ≤ 900 from fun x hx => by
      simp at hx
      subst hx
      have h1 : d8.length ≤ _ := n8
      have := YN.out
      have := Nat.mul_le_mul_right 30 (show gy.length ≤ 30 by omega)
      show d8.length ≤ 900
      omega)
     have bx := bx.trans (by0.mono bx.size)
     replace V := hide (V.out.step bx)
     replace U := hide (U.out.step bx)
     replace Y := hide (Y.out.step bx)
     replace F7 := hide (F7.out.step bx)
     replace B := hide (Below.step B.out B.out.size bx)
     clear t8 f8 g8 n8 by0 bx
     go_wp2_with fail
     refine (times_m (N := 900) M1.out U.out (by simp) L8.out (by omega) (by omega) (by omega) (by omega) (by omega)).mono ?_
     rintro e w9 ⟨v9, l9, rfl, r9, k9, h9, bx⟩
     obtain ⟨z9, rfl⟩ : ∃ z9, l9 = [z9] := by
      match l9, k9 with
      | [z], _ => exact ⟨z, rfl⟩
     obtain ⟨A9, n9, c9, rfl⟩ := rv_sl r9.fv.1
     obtain rfl : n9 = 1 := by
      obtain ⟨_, _, e, _⟩ := r9.fv.1
      injection e
     have F9 := hide r9.fv
     have E9 := hide (show z9.r = dt (tms d8) (xf f) from by
      have h := h9 0 z9 rfl
      rwa [show ((0 : Nat) : Int) = ((0 : Nat) : Int) from rfl, rwA_in (m := [(⟨(A8, m8, c8), d8⟩ : Vx)]) (k := 0) rfl] at h)
     have S9 := hide (show z9.r = sm gy.length (fun i => xf gy (i : Int) * xf l7 (i : Int)) from sides_eq G8.out K7.out H7.out (by have := YN.out; omega) E9.out)
     replace V := hide (V.out.step bx)
     replace U := hide (U.out.step bx)
     replace Y := hide (Y.out.step bx)
     replace F7 := hide (F7.out.step bx)
     replace B := hide (Below.step B.out B.out.size bx)
     clear r9 k9 h9 bx M1 L8 G8 E9 H7
     go_wp2_with fail
     refine (rqsmall_f w9 0 (by omega) (by omega)).mono ?_
     rintro e w1 ⟨x, rfl, hx, rg, b1⟩
     have bx := b1
     have C0 := hide (show Below w1.heap.size w1 (w1.alloc (fqbox x.s (sv x.u) (sv x.t))) from (Below.refl w1.heap.size w1).alloc (Nat.le_refl _) (fqbox x.s (sv x.u) (sv x.t)))
     have R2 := hide (rg.step C0.out)
     have Q2 := hide (Fq.new w1 x.s (sv x.u) (sv x.t))
     have HE := hide (show x.r = sm 0 (fun i => xf gy (i : Int) * xf l7 (i : Int)) by rw [hx]; rfl)
     replace V := hide (V.out.step bx)
     replace U := hide (U.out.step bx)
     replace Y := hide (Y.out.step bx)
     replace F7 := hide (F7.out.step bx)
     replace F9 := hide (F9.out.step bx)
     replace B := hide (Below.step B.out B.out.size bx)
     clear bx rg b1 hx
     go_wp2_with fail
     obtain ⟨g5, h5⟩ : ∃ g5, w1.heap.size = g5 := ⟨_, rfl⟩
     have H5 := hide h5
     rw [h5] at Q2 ⊢
     clear h5
     generalize (w1.alloc (fqbox x.s (sv x.u) (sv x.t))) = w2 at *
     go_loopw [44] (fun iv wr => ∃ (k : Nat) (x : Rx), k ≤ gy.length ∧ iv = .int .i64 (k : Int) ∧ Hid (Below w1.heap.size w1 wr) ∧ Fq wr g5 x.s (sv x.u) (sv x.t) ∧ Hid (x.r = sm k (fun i => xf gy (i : Int) * xf l7 (i : Int))) ∧ Hid (Rf wr (rx x) x.r (k * 1986 + 6))) (fun iv _ => gy.length - (intOf iv).toNat)
     case atStart => exact ⟨0, x, Nat.zero_le _, rfl, C0, Q2.out, HE, by simpa using R2⟩
     case round =>
      clear HE C0 Q2 R2
      obtain ⟨k, y, hk, rfl, C, Qb, E, R⟩ := hrel
      by_cases hlt : k < gy.length
      ·obtain ⟨t, ht⟩ := len_of (d := gy) (k := k) hlt
       obtain ⟨r, hr⟩ := len_of (d := l7) (k := k) (by have := K7.out; have := YN.out; omega)
       have HK := hide (show k * 1986 + 6 ≤ 4000000000 by have := YN.out; omega)
       have HC := hide (show ∀ W, Below w1.heap.size w1 W → E3 W _ (k * 3) t from fun W h => E3.of (Y.out.1.step h) ht)
       have HD := hide (show ∀ W, Below w1.heap.size w1 W → E3 W _ (k * 3) r from fun W h => E3.of (F7.out.1.step h) hr)
       have XT := hide (xf_in ht)
       have XR := hide (xf_in hr)
       have b8 := (Below.refl wr.heap.size wr).drew
       have B5 := hide (Below.step C.out C.out.size b8)
       have HT := hide ((Y.out.2 t (fl_mem ht)).step B5.out)
       have HR := hide ((F7.out.2 r (fl_mem hr)).step B5.out)
       have R5 := hide (R.out.step b8)
       have Q8 := hide (Qb.step b8)
       have l0 : (0 : Int) ≤ (k : Int) := by omega
       have l1 : (k : Int) < (n7 : Int) := by have := YN.out; have := HN7.out; omega
       try have l2 : (k : Int) < (n3 : Int) := by have := YN.out; omega
       obtain ⟨bc, oc, hAc, -⟩ := HC.out w1 (Below.refl _ _)
       obtain ⟨bd, od, hAd, -⟩ := HD.out w1 (Below.refl _ _)
       first
       | (obtain rfl := hAc)
       | (injection hAc with hAc; injection hAc with hAc1 hAc2; have hAc1 := hAc1.symm; have hAc2 := hAc2.symm; subst hAc1 hAc2)
       obtain rfl := hAd
       have Qb9 := hide Qb
       have B9 := hide C.out
       clear ht hr b8 Qb C R
       go_wp2_with fail
       refine wp_region_held_drew (S := fun W => (W.cell? ⟨bc, oc + k * 3, none⟩ = some (.bool t.s) ∧ W.cell? ⟨bc, oc + k * 3 + 1, none⟩ = some (sv t.u) ∧ W.cell? ⟨bc, oc + k * 3 + 2, none⟩ = some (sv t.t)) ∧ (W.cell? ⟨bd, od + k * 3, none⟩ = some (.bool r.s) ∧ W.cell? ⟨bd, od + k * 3 + 1, none⟩ = some (sv r.u) ∧ W.cell? ⟨bd, od + k * 3 + 2, none⟩ = some (sv r.t))) (by kernel_rfl) ?_ (fun hHeld => ?_)
       ·try dsimp only
        exact ⟨(HC.out _ B5.out).cells, (HD.out _ B5.out).cells⟩
       generalize wr.drew = V0 at *
       refine tp 1 hHeld ?_
       refine tp 2 hHeld ?_
       refine tp 6 hHeld ?_
       refine tp 7 hHeld ?_
       try simp only [Act.put, s1, s2, s3, s4, s5, s6]
       refine tk 3 (v := ?_) hHeld ?_ ?_; rotate_left; (focus (intro w hSw; (try dsimp only at hSw); go_simp; (try with_reducible rfl)))
       refine tk 8 (v := ?_) hHeld ?_ ?_; rotate_left; (focus (intro w hSw; (try dsimp only at hSw); go_simp; (try with_reducible rfl)))
       try simp only [Act.put, s1, s2, s3, s4, s5, s6]
       refine tk 4 (v := ?_) hHeld ?_ ?_; rotate_left; (focus (intro w hSw; (try dsimp only at hSw); go_simp; (try with_reducible rfl)))
       refine tk 9 (v := ?_) hHeld ?_ ?_; rotate_left; (focus (intro w hSw; (try dsimp only at hSw); go_simp; (try with_reducible rfl)))
       try simp only [Act.put, s1, s2, s3, s4, s5, s6]
       refine r2 0 5 (fun K hK => ?_) (fun K hK => ?_)
       ·obtain ⟨k0, k1, k2, -, -, -⟩ := Q8.out.all; go_simp; clear k0 k1 k2; refine hK.out _ _ (And.intro (HC.out _ B5.out).cells (HD.out _ B5.out).cells) (fun hHeld => ?_); clear hK K
        try simp only [Act.put, s1, s2, s3, s4, s5, s6]
        refine r1 5 (fun K hK => ?_)
        go_simp; go_at_call 16; refine Calls.mono (rof_f HT.out (by omega) (by omega)) ?_; rintro e V2 ⟨ya, rfl, ha, ra, bx⟩; have RA := hide ra; have HA := hide ha; replace Q8 := hide (Q8.out.step bx); replace R5 := hide (R5.out.step bx); replace HR := hide (HR.out.step bx); replace B5 := hide (Below.step B5.out B5.out.size bx); clear bx; clear ha ra; refine hK.out _ _ (And.intro (HC.out _ B5.out).cells (HD.out _ B5.out).cells) (fun hHeld => ?_); clear hK K
        try simp only [Act.put, s1, s2, s3, s4, s5, s6]
        refine r1 10 (fun K hK => ?_)
        go_simp; go_at_call 16; refine Calls.mono (rof_f HR.out (by omega) (by omega)) ?_; rintro e V3 ⟨yb, rfl, ha, ra, bx⟩; have RB := hide ra; have HDv := hide ha; replace Q8 := hide (Q8.out.step bx); replace R5 := hide (R5.out.step bx); replace RA := hide (RA.out.step bx); replace B5 := hide (Below.step B5.out B5.out.size bx); clear bx; clear ha ra; refine hK.out _ _ (And.intro (HC.out _ B5.out).cells (HD.out _ B5.out).cells) (fun hHeld => ?_); clear hK K
        try simp only [Act.put, s1, s2, s3, s4, s5, s6]
        refine r1 11 (fun K hK => ?_)
        go_simp; go_at_call 15; refine Calls.mono (rqmul_f RA.out RB.out (by omega) (by omega) (by omega)) ?_; rintro e V4 ⟨yc, rfl, ha, ra, bx⟩; have RM := hide ra; have HP := hide ha; replace Q8 := hide (Q8.out.step bx); replace R5 := hide (R5.out.step bx); replace B5 := hide (Below.step B5.out B5.out.size bx); clear bx; clear ha ra; refine hK.out _ _ (And.intro (HC.out _ B5.out).cells (HD.out _ B5.out).cells) (fun hHeld => ?_); clear hK K
        try simp only [Act.put, s1, s2, s3, s4, s5, s6]
        refine r1 12 (fun K hK => ?_)
        go_simp; go_at_call 14; refine Calls.mono (rqadd_f R5.out RM.out (by omega) HK.out (by omega)) ?_; rintro e V5 ⟨z, rfl, ha, ra, bx⟩; have RZ := hide (ra.more (M := (k + 1) * 1986 + 6) (by rw [Nat.add_mul k 1]; omega)); have HZ := hide ha; replace Q8 := hide (Q8.out.step bx); replace B5 := hide (Below.step B5.out B5.out.size bx); clear bx; clear ha ra; refine hK.out _ _ (And.intro (HC.out _ B5.out).cells (HD.out _ B5.out).cells) (fun hHeld => ?_); clear hK K
        try simp only [Act.put, s1, s2, s3, s4, s5, s6]
        refine r1 13 (fun K hK => ?_)
        obtain ⟨k0, k1, k2, f0, f1, f2⟩ := Q8.out.all; have only := only_put3 V5 g5 (.bool z.s) (sv z.u) (sv z.t); have bz2 := hide (below_put3 B5.out (Nat.le_of_eq H5.out) (.bool z.s) (sv z.u) (sv z.t)); have qq := hide (Q8.out.put z.s (sv z.u) (sv z.t)); have ee := hide (show z.r = sm (k + 1) (fun i => xf gy (i : Int) * xf l7 (i : Int)) by rw [HZ.out, HP.out, HA.out, HDv.out, E.out, sm, XT.out, XR.out]); have rr := hide (RZ.out.grownI only Q8.out.nui); go_simp; clear only k0 k1 k2 f0 f1 f2; refine hK.out _ _ (And.intro (HC.out _ bz2.out).cells (HD.out _ bz2.out).cells) (fun hHeld => ?_); clear hK K
        refine wpAnyH_done (by kernel_rfl) ?_ _
        go_wp2_with fail
        exact ⟨⟨k + 1, z, by omega, by go_num, bz2, qq.out, ee, rr⟩, by simp [intOf]; omega⟩
       ·go_simp; go_at_call 16; refine Calls.mono (rof_f HT.out (by omega) (by omega)) ?_; rintro e V1 ⟨ya, rfl, ha, ra, bx⟩; have RA := hide ra; have HA := hide ha; replace Q8 := hide (Q8.out.step bx); replace R5 := hide (R5.out.step bx); replace HR := hide (HR.out.step bx); replace B5 := hide (Below.step B5.out B5.out.size bx); clear bx; clear ha ra; refine hK.out _ _ (And.intro (HC.out _ B5.out).cells (HD.out _ B5.out).cells) (fun hHeld => ?_); clear hK K
        try simp only [Act.put, s1, s2, s3, s4, s5, s6]
        refine r2 0 10 (fun K hK => ?_) (fun K hK => ?_)
        ·obtain ⟨k0, k1, k2, -, -, -⟩ := Q8.out.all; go_simp; clear k0 k1 k2; refine hK.out _ _ (And.intro (HC.out _ B5.out).cells (HD.out _ B5.out).cells) (fun hHeld => ?_); clear hK K
         try simp only [Act.put, s1, s2, s3, s4, s5, s6]
         refine r1 10 (fun K hK => ?_)
         go_simp; go_at_call 16; refine Calls.mono (rof_f HR.out (by omega) (by omega)) ?_; rintro e V3 ⟨yb, rfl, ha, ra, bx⟩; have RB := hide ra; have HDv := hide ha; replace Q8 := hide (Q8.out.step bx); replace R5 := hide (R5.out.step bx); replace RA := hide (RA.out.step bx); replace B5 := hide (Below.step B5.out B5.out.size bx); clear bx; clear ha ra; refine hK.out _ _ (And.intro (HC.out _ B5.out).cells (HD.out _ B5.out).cells) (fun hHeld => ?_); clear hK K
         try simp only [Act.put, s1, s2, s3, s4, s5, s6]
         refine r1 11 (fun K hK => ?_)
         go_simp; go_at_call 15; refine Calls.mono (rqmul_f RA.out RB.out (by omega) (by omega) (by omega)) ?_; rintro e V4 ⟨yc, rfl, ha, ra, bx⟩; have RM := hide ra; have HP := hide ha; replace Q8 := hide (Q8.out.step bx); replace R5 := hide (R5.out.step bx); replace B5 := hide (Below.step B5.out B5.out.size bx); clear bx; clear ha ra; refine hK.out _ _ (And.intro (HC.out _ B5.out).cells (HD.out _ B5.out).cells) (fun hHeld => ?_); clear hK K
         try simp only [Act.put, s1, s2, s3, s4, s5, s6]
         refine r1 12 (fun K hK => ?_)
         go_simp; go_at_call 14; refine Calls.mono (rqadd_f R5.out RM.out (by omega) HK.out (by omega)) ?_; rintro e V5 ⟨z, rfl, ha, ra, bx⟩; have RZ := hide (ra.more (M := (k + 1) * 1986 + 6) (by rw [Nat.add_mul k 1]; omega)); have HZ := hide ha; replace Q8 := hide (Q8.out.step bx); replace B5 := hide (Below.step B5.out B5.out.size bx); clear bx; clear ha ra; refine hK.out _ _ (And.intro (HC.out _ B5.out).cells (HD.out _ B5.out).cells) (fun hHeld => ?_); clear hK K
         try simp only [Act.put, s1, s2, s3, s4, s5, s6]
         refine r1 13 (fun K hK => ?_)
         obtain ⟨k0, k1, k2, f0, f1, f2⟩ := Q8.out.all; have only := only_put3 V5 g5 (.bool z.s) (sv z.u) (sv z.t); have bz2 := hide (below_put3 B5.out (Nat.le_of_eq H5.out) (.bool z.s) (sv z.u) (sv z.t)); have qq := hide (Q8.out.put z.s (sv z.u) (sv z.t)); have ee := hide (show z.r = sm (k + 1) (fun i => xf gy (i : Int) * xf l7 (i : Int)) by rw [HZ.out, HP.out, HA.out, HDv.out, E.out, sm, XT.out, XR.out]); have rr := hide (RZ.out.grownI only Q8.out.nui); go_simp; clear only k0 k1 k2 f0 f1 f2; refine hK.out _ _ (And.intro (HC.out _ bz2.out).cells (HD.out _ bz2.out).cells) (fun hHeld => ?_); clear hK K
         refine wpAnyH_done (by kernel_rfl) ?_ _
         go_wp2_with fail
         exact ⟨⟨k + 1, z, by omega, by go_num, bz2, qq.out, ee, rr⟩, by simp [intOf]; omega⟩
        ·go_simp; go_at_call 16; refine Calls.mono (rof_f HR.out (by omega) (by omega)) ?_; rintro e V2 ⟨yb, rfl, ha, ra, bx⟩; have RB := hide ra; have HDv := hide ha; replace Q8 := hide (Q8.out.step bx); replace R5 := hide (R5.out.step bx); replace RA := hide (RA.out.step bx); replace B5 := hide (Below.step B5.out B5.out.size bx); clear bx; clear ha ra; refine hK.out _ _ (And.intro (HC.out _ B5.out).cells (HD.out _ B5.out).cells) (fun hHeld => ?_); clear hK K
         try simp only [Act.put, s1, s2, s3, s4, s5, s6]
         refine r2 0 11 (fun K hK => ?_) (fun K hK => ?_)
         ·obtain ⟨k0, k1, k2, -, -, -⟩ := Q8.out.all; go_simp; clear k0 k1 k2; refine hK.out _ _ (And.intro (HC.out _ B5.out).cells (HD.out _ B5.out).cells) (fun hHeld => ?_); clear hK K
          try simp only [Act.put, s1, s2, s3, s4, s5, s6]
          refine r1 11 (fun K hK => ?_)
          go_simp; go_at_call 15; refine Calls.mono (rqmul_f RA.out RB.out (by omega) (by omega) (by omega)) ?_; rintro e V4 ⟨yc, rfl, ha, ra, bx⟩; have RM := hide ra; have HP := hide ha; replace Q8 := hide (Q8.out.step bx); replace R5 := hide (R5.out.step bx); replace B5 := hide (Below.step B5.out B5.out.size bx); clear bx; clear ha ra; refine hK.out _ _ (And.intro (HC.out _ B5.out).cells (HD.out _ B5.out).cells) (fun hHeld => ?_); clear hK K
          try simp only [Act.put, s1, s2, s3, s4, s5, s6]
          refine r1 12 (fun K hK => ?_)
          go_simp; go_at_call 14; refine Calls.mono (rqadd_f R5.out RM.out (by omega) HK.out (by omega)) ?_; rintro e V5 ⟨z, rfl, ha, ra, bx⟩; have RZ := hide (ra.more (M := (k + 1) * 1986 + 6) (by rw [Nat.add_mul k 1]; omega)); have HZ := hide ha; replace Q8 := hide (Q8.out.step bx); replace B5 := hide (Below.step B5.out B5.out.size bx); clear bx; clear ha ra; refine hK.out _ _ (And.intro (HC.out _ B5.out).cells (HD.out _ B5.out).cells) (fun hHeld => ?_); clear hK K
          try simp only [Act.put, s1, s2, s3, s4, s5, s6]
          refine r1 13 (fun K hK => ?_)
          obtain ⟨k0, k1, k2, f0, f1, f2⟩ := Q8.out.all; have only := only_put3 V5 g5 (.bool z.s) (sv z.u) (sv z.t); have bz2 := hide (below_put3 B5.out (Nat.le_of_eq H5.out) (.bool z.s) (sv z.u) (sv z.t)); have qq := hide (Q8.out.put z.s (sv z.u) (sv z.t)); have ee := hide (show z.r = sm (k + 1) (fun i => xf gy (i : Int) * xf l7 (i : Int)) by rw [HZ.out, HP.out, HA.out, HDv.out, E.out, sm, XT.out, XR.out]); have rr := hide (RZ.out.grownI only Q8.out.nui); go_simp; clear only k0 k1 k2 f0 f1 f2; refine hK.out _ _ (And.intro (HC.out _ bz2.out).cells (HD.out _ bz2.out).cells) (fun hHeld => ?_); clear hK K
          refine wpAnyH_done (by kernel_rfl) ?_ _
          go_wp2_with fail
          exact ⟨⟨k + 1, z, by omega, by go_num, bz2, qq.out, ee, rr⟩, by simp [intOf]; omega⟩
         ·go_simp; go_at_call 15; refine Calls.mono (rqmul_f RA.out RB.out (by omega) (by omega) (by omega)) ?_; rintro e V3 ⟨yc, rfl, ha, ra, bx⟩; have RM := hide ra; have HP := hide ha; replace Q8 := hide (Q8.out.step bx); replace R5 := hide (R5.out.step bx); replace B5 := hide (Below.step B5.out B5.out.size bx); clear bx; clear ha ra; refine hK.out _ _ (And.intro (HC.out _ B5.out).cells (HD.out _ B5.out).cells) (fun hHeld => ?_); clear hK K
          try simp only [Act.put, s1, s2, s3, s4, s5, s6]
          refine r1 0 (fun K hK => ?_)
          obtain ⟨k0, k1, k2, -, -, -⟩ := Q8.out.all; go_simp; clear k0 k1 k2; refine hK.out _ _ (And.intro (HC.out _ B5.out).cells (HD.out _ B5.out).cells) (fun hHeld => ?_); clear hK K
          try simp only [Act.put, s1, s2, s3, s4, s5, s6]
          refine r1 12 (fun K hK => ?_)
          go_simp; go_at_call 14; refine Calls.mono (rqadd_f R5.out RM.out (by omega) HK.out (by omega)) ?_; rintro e V5 ⟨z, rfl, ha, ra, bx⟩; have RZ := hide (ra.more (M := (k + 1) * 1986 + 6) (by rw [Nat.add_mul k 1]; omega)); have HZ := hide ha; replace Q8 := hide (Q8.out.step bx); replace B5 := hide (Below.step B5.out B5.out.size bx); clear bx; clear ha ra; refine hK.out _ _ (And.intro (HC.out _ B5.out).cells (HD.out _ B5.out).cells) (fun hHeld => ?_); clear hK K
          try simp only [Act.put, s1, s2, s3, s4, s5, s6]
          refine r1 13 (fun K hK => ?_)
          obtain ⟨k0, k1, k2, f0, f1, f2⟩ := Q8.out.all; have only := only_put3 V5 g5 (.bool z.s) (sv z.u) (sv z.t); have bz2 := hide (below_put3 B5.out (Nat.le_of_eq H5.out) (.bool z.s) (sv z.u) (sv z.t)); have qq := hide (Q8.out.put z.s (sv z.u) (sv z.t)); have ee := hide (show z.r = sm (k + 1) (fun i => xf gy (i : Int) * xf l7 (i : Int)) by rw [HZ.out, HP.out, HA.out, HDv.out, E.out, sm, XT.out, XR.out]); have rr := hide (RZ.out.grownI only Q8.out.nui); go_simp; clear only k0 k1 k2 f0 f1 f2; refine hK.out _ _ (And.intro (HC.out _ bz2.out).cells (HD.out _ bz2.out).cells) (fun hHeld => ?_); clear hK K
          refine wpAnyH_done (by kernel_rfl) ?_ _
          go_wp2_with fail
          exact ⟨⟨k + 1, z, by omega, by go_num, bz2, qq.out, ee, rr⟩, by simp [intOf]; omega⟩
      ·have hke : k = gy.length := by omega
       have EE := hide (show z9.r = y.r by rw [S9.out, E.out, hke])
       first
       | (have hkk : n7 = k := (by have := YN.out; omega); subst hkk)
       | (have hkk : n3 = k := (by have := YN.out; omega); subst hkk)
       have b9 := (Below.refl wr.heap.size wr).drew
       have D := hide (Below.step C.out C.out.size b9)
       have VX := hide (V.out.step D.out)
       have FX := hide ((F9.out.2 z9 (by simp)).step D.out)
       have RX := hide ((R.out.step b9).more (M := 1000000) (by have := YN.out; omega))
       have QX := hide (Qb.step b9)
       have BX := hide (Below.step B.out B.out.size D.out)
       have HN := hide (show n1 = m.length ∧ n1 ≤ 12 by have := HN1.out; have := VL.out; omega)
       obtain ⟨bz, oz, hAz, -⟩ := (E3.of F9.out.1 (k := 0) rfl : E3 w1 _ (0 * 3) z9)
       first
       | (obtain rfl := hAz)
       | (injection hAz with hAz; injection hAz with hAz1 hAz2; have hAz1 := hAz1.symm; have hAz2 := hAz2.symm; subst hAz1 hAz2)
       have HC0 := hide (show ∀ W, Below w1.heap.size w1 W → W.cell? ⟨bz, oz, none⟩ = some (.bool z9.s) ∧ W.cell? ⟨bz, oz + 1, none⟩ = some (sv z9.u) ∧ W.cell? ⟨bz, oz + 2, none⟩ = some (sv z9.t) from fun W h => by
        have e := (E3.of (F9.out.1.step h) (k := 0) rfl : E3 W _ (0 * 3) z9).cells
        simpa using e)
       clear b9 E Qb R S9 hlt hk hke
       go_wp2_with fail
       refine wp_region_held_drew (S := fun W => (W.cell? ⟨bz, oz, none⟩ = some (.bool z9.s) ∧ W.cell? ⟨bz, oz + 1, none⟩ = some (sv z9.u) ∧ W.cell? ⟨bz, oz + 2, none⟩ = some (sv z9.t)) ∧ W.cell? ⟨g5, 0, none⟩ = some (.bool y.s) ∧ W.cell? ⟨g5, 1, none⟩ = some (sv y.u) ∧ W.cell? ⟨g5, 2, none⟩ = some (sv y.t)) (by kernel_rfl) ?_ (fun hHeld => ?_)
       ·try dsimp only
        exact (And.intro (HC0.out _ D.out) (And.intro QX.out.all.1 (And.intro QX.out.all.2.1 QX.out.all.2.2.1)))
       generalize wr.drew = V0 at *
       refine tp 0 hHeld ?_
       try simp only [Act.put, s1, s2, s3, s4, s5, s6]
       refine tk 1 (v := ?_) hHeld ?_ ?_; rotate_left; (focus (intro w hSw; (try dsimp only at hSw); go_simp; (try with_reducible rfl)))
       try simp only [Act.put, s1, s2, s3, s4, s5, s6]
       refine tk 2 (v := ?_) hHeld ?_ ?_; rotate_left; (focus (intro w hSw; (try dsimp only at hSw); go_simp; (try with_reducible rfl)))
       try simp only [Act.put, s1, s2, s3, s4, s5, s6]
       refine tp 3 hHeld ?_
       try simp only [Act.put, s1, s2, s3, s4, s5, s6]
       refine tp 4 hHeld ?_
       refine tk 8 (v := ?_) hHeld ?_ ?_; rotate_left; (focus (intro w hSw; (try dsimp only at hSw); go_simp; (try with_reducible rfl)))
       try simp only [Act.put, s1, s2, s3, s4, s5, s6]
       refine tk 5 (v := ?_) hHeld ?_ ?_; rotate_left; (focus (intro w hSw; (try dsimp only at hSw); go_simp; (try with_reducible rfl)))
       try simp only [Act.put, s1, s2, s3, s4, s5, s6]
       refine tk 6 (v := ?_) hHeld ?_ ?_; rotate_left; (focus (intro w hSw; (try dsimp only at hSw); go_simp; (try with_reducible rfl)))
       try simp only [Act.put, s1, s2, s3, s4, s5, s6]
       refine r1 7 (fun K hK => ?_)
       go_simp; go_at_call 16; refine Calls.mono (rof_f FX.out (by omega) (by omega)) ?_; rintro e V1 ⟨xz, rfl, ha, ra, bx⟩; have RZ := hide ra; have HZ := hide ha; replace VX := hide (VX.out.step bx); replace RX := hide (RX.out.step bx); replace QX := hide (QX.out.step bx); replace D := hide (Below.step D.out D.out.size bx); replace BX := hide (Below.step BX.out BX.out.size bx); clear bx; clear ha ra; refine hK.out _ _ (And.intro (HC0.out _ D.out) (And.intro QX.out.all.1 (And.intro QX.out.all.2.1 QX.out.all.2.2.1))) (fun hHeld => ?_); clear hK K
       try simp only [Act.put, s1, s2, s3, s4, s5, s6]
       refine r1 9 (fun K hK => ?_)
       go_simp; go_at_call 17; refine Calls.mono (rqcmp_s (L := 5 * (900 * (352801 + 6 + 1) + 1)) RZ.out (RX.out.more (by omega)) (by omega) (by omega)) ?_; rintro e V2 ⟨he, bx⟩; rw [show cmpR xz.r y.r = 0 by rw [HZ.out, EE.out]; exact cmpR_same _] at he; subst he; replace VX := hide (VX.out.step bx); replace QX := hide (QX.out.step bx); replace D := hide (Below.step D.out D.out.size bx); replace BX := hide (Below.step BX.out BX.out.size bx); clear bx; refine hK.out _ _ (And.intro (HC0.out _ D.out) (And.intro QX.out.all.1 (And.intro QX.out.all.2.1 QX.out.all.2.2.1))) (fun hHeld => ?_); clear hK K
       refine tk 10 (v := ?_) hHeld ?_ ?_; rotate_left; (focus (intro w hSw; (try dsimp only at hSw); go_simp; (try with_reducible rfl)))
       try simp only [Act.put, s1, s2, s3, s4, s5, s6]
       refine tp 11 hHeld ?_
       try simp only [Act.put, s1, s2, s3, s4, s5, s6]
       refine tp 12 hHeld ?_
       try simp only [Act.put, s1, s2, s3, s4, s5, s6]
       refine tp 13 hHeld ?_
       refine tp 16 hHeld ?_
       refine tp 18 hHeld ?_
       refine tp 21 hHeld ?_
       try simp only [Act.put, s1, s2, s3, s4, s5, s6]
       refine tk 14 (v := ?_) hHeld ?_ ?_; rotate_left; (focus (intro w hSw; (try dsimp only at hSw); go_simp; (try with_reducible rfl)))
       refine tk 19 (v := ?_) hHeld ?_ ?_; rotate_left; (focus (intro w hSw; (try dsimp only at hSw); go_simp; (try with_reducible rfl)))
       try simp only [Act.put, s1, s2, s3, s4, s5, s6]
       refine r1 15 (fun K hK => ?_)
       go_simp; go_at_call 20; refine Calls.mono (show Calls _ _ #[.int .i64 (n1 : Int)] _ _ from unit_m (n := n1) (by have := HN.out; omega)) ?_; rintro e V3 ⟨v1, u1, rfl, mg, ul, un, bx⟩; have MU1 := hide mg.mvv; have LU1 := hide ul; have UN1 := hide un; obtain ⟨Au1, nu1, cu1, rfl⟩ := rv_sl MU1.out.1; replace VX := hide (VX.out.step bx); replace QX := hide (QX.out.step bx); replace D := hide (Below.step D.out D.out.size bx); replace BX := hide (Below.step BX.out BX.out.size bx); clear bx; clear mg ul un; refine hK.out _ _ (And.intro (HC0.out _ D.out) (And.intro QX.out.all.1 (And.intro QX.out.all.2.1 QX.out.all.2.2.1))) (fun hHeld => ?_); clear hK K
       try simp only [Act.put, s1, s2, s3, s4, s5, s6]
       refine r1 17 (fun K hK => ?_)
       go_simp; go_at_call 19; refine Calls.mono (uprod MU1.out VX.out VM.out VL.out (by rw [LU1.out]; exact HN.out.1) UN1.out) ?_; rintro e V4 ⟨Ap1, np1, cp1, p1, rfl, mg, l30, ulp, bx⟩; have P1 := hide mg; have L1 := hide l30; have UP1 := hide ulp; replace VX := hide (VX.out.step bx); replace QX := hide (QX.out.step bx); replace D := hide (Below.step D.out D.out.size bx); replace BX := hide (Below.step BX.out BX.out.size bx); clear bx; clear mg l30 ulp; refine hK.out _ _ (And.intro (HC0.out _ D.out) (And.intro QX.out.all.1 (And.intro QX.out.all.2.1 QX.out.all.2.2.1))) (fun hHeld => ?_); clear hK K
       try simp only [Act.put, s1, s2, s3, s4, s5, s6]
       refine r1 20 (fun K hK => ?_)
       go_simp; go_at_call 20; refine Calls.mono (show Calls _ _ #[.int .i64 (n1 : Int)] _ _ from unit_m (n := n1) (by have := HN.out; omega)) ?_; rintro e V5 ⟨v2, u2, rfl, mg, ul, un, bx⟩; have MU2 := hide mg.mvv; have LU2 := hide ul; have UN2 := hide un; obtain ⟨Au2, nu2, cu2, rfl⟩ := rv_sl MU2.out.1; replace VX := hide (VX.out.step bx); replace QX := hide (QX.out.step bx); replace P1 := hide (P1.out.step bx); replace D := hide (Below.step D.out D.out.size bx); replace BX := hide (Below.step BX.out BX.out.size bx); clear bx; clear mg ul un; refine hK.out _ _ (And.intro (HC0.out _ D.out) (And.intro QX.out.all.1 (And.intro QX.out.all.2.1 QX.out.all.2.2.1))) (fun hHeld => ?_); clear hK K
       try simp only [Act.put, s1, s2, s3, s4, s5, s6]
       refine r1 22 (fun K hK => ?_)
       go_simp; go_at_call 19; refine Calls.mono (uprod MU2.out VX.out VM.out VL.out (by rw [LU2.out]; exact HN.out.1) UN2.out) ?_; rintro e V6 ⟨Ap2, np2, cp2, p2, rfl, mg, l30, ulp, bx⟩; have P2 := hide mg; have L2 := hide l30; have UP2 := hide ulp; replace VX := hide (VX.out.step bx); replace QX := hide (QX.out.step bx); replace P1 := hide (P1.out.step bx); replace D := hide (Below.step D.out D.out.size bx); replace BX := hide (Below.step BX.out BX.out.size bx); clear bx; clear mg l30 ulp; refine hK.out _ _ (And.intro (HC0.out _ D.out) (And.intro QX.out.all.1 (And.intro QX.out.all.2.1 QX.out.all.2.2.1))) (fun hHeld => ?_); clear hK K
       try simp only [Act.put, s1, s2, s3, s4, s5, s6]
       refine r1 23 (fun K hK => ?_)
       go_simp; go_at_call 20; refine Calls.mono (show Calls _ _ #[.int .i64 60] _ _ from unit_m (n := 60) (by have := HN.out; omega)) ?_; rintro e V7 ⟨v3, u3, rfl, mg, ul, un, bx⟩; have MU3 := hide mg.mvv; have LU3 := hide ul; have UN3 := hide un; obtain ⟨Au3, nu3, cu3, rfl⟩ := rv_sl MU3.out.1; replace VX := hide (VX.out.step bx); replace QX := hide (QX.out.step bx); replace P1 := hide (P1.out.step bx); replace P2 := hide (P2.out.step bx); replace D := hide (Below.step D.out D.out.size bx); replace BX := hide (Below.step BX.out BX.out.size bx); clear bx; clear mg ul un; refine hK.out _ _ (And.intro (HC0.out _ D.out) (And.intro QX.out.all.1 (And.intro QX.out.all.2.1 QX.out.all.2.2.1))) (fun hHeld => ?_); clear hK K
       try simp only [Act.put, s1, s2, s3, s4, s5, s6]
       refine r1 24 (fun K hK => ?_)
       go_simp; go_at_call 19; refine Calls.mono (uprod60 P2.out.mvv MU3.out L2.out (by rw [UP2.out.1]; exact VL.out) LU3.out UN3.out) ?_; rintro e V8 ⟨Ar, nr, cr, pr, rfl, mg, urp, bx⟩; have P3 := hide mg; have UP3 := hide urp; replace VX := hide (VX.out.step bx); replace QX := hide (QX.out.step bx); replace P1 := hide (P1.out.step bx); replace D := hide (Below.step D.out D.out.size bx); replace BX := hide (Below.step BX.out BX.out.size bx); clear bx; clear mg urp; refine hK.out _ _ (And.intro (HC0.out _ D.out) (And.intro QX.out.all.1 (And.intro QX.out.all.2.1 QX.out.all.2.2.1))) (fun hHeld => ?_); clear hK K
       try simp only [Act.put, s1, s2, s3, s4, s5, s6]
       refine r1 25 (fun K hK => ?_)
       go_simp; go_at_call 18; refine Calls.mono (same_or P1.out.mc P3.out.mc UP1.out UP2.out UP3.out) ?_; rintro e V9 ⟨bb, rfl, hbb, bx⟩; have HB := hide hbb; replace VX := hide (VX.out.step bx); replace QX := hide (QX.out.step bx); replace D := hide (Below.step D.out D.out.size bx); replace BX := hide (Below.step BX.out BX.out.size bx); clear bx; clear hbb; refine hK.out _ _ (And.intro (HC0.out _ D.out) (And.intro QX.out.all.1 (And.intro QX.out.all.2.1 QX.out.all.2.2.1))) (fun hHeld => ?_); clear hK K
       cases bb
       case true =>
        refine tp 26 hHeld ?_
        refine tp 27 hHeld ?_
        try simp only [Act.put, s1, s2, s3, s4, s5, s6]
        refine sh 28 hHeld ?_
        refine sh 29 hHeld ?_
        refine sh 30 hHeld ?_
        refine tp 31 hHeld ?_
        refine tp 32 hHeld ?_
        try simp only [Act.put, s1, s2, s3, s4, s5, s6]
        refine wpAnyH_done (by kernel_rfl) ?_ _
        go_wp2_with fail
        go_ret
        exact ⟨rfl, BX.out⟩
       case false =>
        have HB2 := hide (HB.out rfl)
        refine tp 26 hHeld ?_
        refine tp 27 hHeld ?_
        try simp only [Act.put, s1, s2, s3, s4, s5, s6]
        refine tp 28 hHeld ?_
        try simp only [Act.put, s1, s2, s3, s4, s5, s6]
        refine r1 29 (fun K hK => ?_)
        go_simp
        go_at_call 21
        refine Calls.mono (most_m (N := 30) VX.out VM.out (by omega) (by omega) (by omega) (by have := VL.out; omega)) ?_
        rintro e VV ⟨zz, rfl, hz, bx⟩
        have h60 : (60 : Int) ≤ zz := (hz 60 (by omega)).2 HB2.out
        have hd : decide ((60 : Int) ≤ zz) = true := decide_eq_true h60
        replace QX := hide (QX.out.step bx); replace D := hide (Below.step D.out D.out.size bx); replace BX := hide (Below.step BX.out BX.out.size bx); clear bx
        refine hK.out _ _ (And.intro (HC0.out _ D.out) (And.intro QX.out.all.1 (And.intro QX.out.all.2.1 QX.out.all.2.2.1))) (fun hHeld => ?_)
        clear hK K
        try simp only [Act.put, s1, s2, s3, s4, s5, s6]
        refine tk 30 (v := .bool true) hHeld ?_ ?_
        (focus (intro w hSw; go_simp; (try with_reducible rfl); (try exact h60)))
        refine tp 31 hHeld ?_
        refine tp 32 hHeld ?_
        try simp only [Act.put, s1, s2, s3, s4, s5, s6]
        refine wpAnyH_done (by kernel_rfl) ?_ _
        go_wp2_with fail
        go_ret
        exact ⟨rfl, BX.out⟩
end Go.Proofs.YtfnngcaalpknlaaGreat
