/-
  The walk of VecSums: true.
-/
import Derived.Test.YtajjpepjbflojaaGreatVecLinW
import Derived.Test.YtajjpepjbflojaaGreatVecFormsW
import Derived.Test.YtajjpepjbflojaaGreatVref5


namespace Go.Proofs.YtajjpepjbflojaaGreat
open Go.RowKit Go.Proofs.YtajjpepjbflojaaGreat.Num
set_option linter.unusedVariables false
set_option linter.unusedSimpArgs false
set_option maxRecDepth 100000

theorem ow_ne {α β : Type} {enc : α → List Value} {enc' : β → List Value} {k k' : Nat} {T T' : TypeId} {w1 W : World} {B B' : Nat} {v v' : Value} {d : List α} {d' : List β} (h1 : Ow T enc k w1 B v d) (h2 : Ow T' enc' k' W B' v' d') (hB : w1.heap.size ≤ B') : v'.ownBlock = none ∨ v'.ownBlock ≠ v.ownBlock := by
  cases h : v'.ownBlock with
  | none => exact .inl rfl
  | some g =>
    refine .inr (fun e => ?_)
    have a := (h2.lt h).1
    have b := (h1.lt e.symm).2
    omega

set_option maxHeartbeats 16000000 in
theorem vsums_true (w : World) (a0 : Rx) (v u : Value) (d f : List Tx) (ha : Ra w (rx a0) a0.r 17592186043904) (hv : Tv w v d 17592186043904) (hu : Tv w u f 17592186043904) :
    Calls Tryz.prog 5 #[rx a0, v, u] w fun e w' => e = .returned (.bool true) ∧ Below w.heap.size w w' := by
  obtain ⟨A1, n1, c1, rfl⟩ := rv_sl hv.1
  obtain ⟨A2, n2, c2, rfl⟩ := rv_sl hu.1
  have b0 := alloc_below w (rbox a0.s (sv a0.u) (sv a0.t))
  have Q := hide (Bq.new w a0.s (sv a0.u) (sv a0.t))
  have HA := hide (ha.step b0)
  have HV := hide (hv.step b0)
  have HU := hide (hu.step b0)
  have B := hide b0
  obtain ⟨i0, hi, hz0, hz1, hz2⟩ := info_parts info_rt
  clear ha hv hu b0
  go_enter Tryz.func5, Tryz.ntmps5
  go_wp2_with fail
  refine (vspeaks_true _).mono ?_
  rintro e w1 ⟨rfl, bx⟩
  replace Q := hide (Q.out.step bx)
  replace HA := hide (HA.out.step bx)
  replace HV := hide (HV.out.step bx)
  replace HU := hide (HU.out.step bx)
  replace B := hide (Below.step B.out B.out.size bx)
  clear bx
  go_wp2_with fail
  refine (great_c HV.out (by omega)).mono ?_
  rintro e w2 ⟨bx, p, rfl, hp⟩
  replace Q := hide (Q.out.step bx)
  replace HA := hide (HA.out.step bx)
  replace HV := hide (HV.out.step bx)
  replace HU := hide (HU.out.step bx)
  replace B := hide (Below.step B.out B.out.size bx)
  have HP := hide hp
  clear bx hp
  cases p with
  | true =>
    go_wp2_with fail
    go_ret
    exact ⟨rfl, B.out⟩
  | false =>
    obtain ⟨dl, dw⟩ := HP.out rfl
    replace HV := hide (HV.out.tight dw)
    have DL := hide dl
    clear dl dw HP
    go_wp2_with fail
    refine (great_c HU.out (by omega)).mono ?_
    rintro e w3 ⟨bx, p, rfl, hp⟩
    replace Q := hide (Q.out.step bx)
    replace HA := hide (HA.out.step bx)
    replace HV := hide (HV.out.step bx)
    replace HU := hide (HU.out.step bx)
    replace B := hide (Below.step B.out B.out.size bx)
    have HP := hide hp
    clear bx hp
    cases p with
    | true =>
      go_wp2_with fail
      go_ret
      exact ⟨rfl, B.out⟩
    | false =>
      obtain ⟨dl, dw⟩ := HP.out rfl
      replace HU := hide (HU.out.tight dw)
      have FL := hide dl
      clear dl dw HP
      obtain ⟨p0, p1, p2⟩ := bq3 Q.out
      go_wp2_with fail
      refine (words_x HA.out (by omega)).mono ?_
      rintro e w4 ⟨rfl, bx⟩
      replace Q := hide (Q.out.step bx)
      replace HA := hide (HA.out.step bx)
      replace HV := hide (HV.out.step bx)
      replace HU := hide (HU.out.step bx)
      replace B := hide (Below.step B.out B.out.size bx)
      obtain ⟨m, hm⟩ : ∃ m, m = a0.u.2.1 + a0.t.2.1 := ⟨_, rfl⟩
      rw [← hm]
      have HM := hide hm
      clear bx p0 p1 p2 hm
      by_cases h6 : 6 < m
      · have t1 : decide ((6 : Int) < (m : Int)) = true := decide_eq_true (by omega)
        go_wp2_with fail
        go_ret
        exact ⟨rfl, B.out⟩
      · have t1 : decide ((6 : Int) < (m : Int)) = false := decide_eq_false (by omega)
        replace HA := hide (big_words HA.out HM.out h6)
        clear h6
        obtain ⟨za, -, hza⟩ := zf_of HA.out 0
        have ZA := hide hza
        obtain ⟨zv, hzv⟩ := tl_of HV.out
        have TV := hide hzv
        obtain ⟨zu, hzu⟩ := tl_of HU.out
        have TU := hide hzu
        clear hza hzv hzu HA HV HU
        obtain ⟨p0, p1, p2⟩ := bq3 Q.out
        go_wp2_with fail
        refine (rcopy_w ZA.out (by omega)).mono ?_
        rintro e w5 ⟨k0, rfl, hk, bx⟩
        have ZK := hide hk.1
        replace Q := hide (Q.out.step bx)
        replace ZA := hide (ZA.out.step bx)
        replace TV := hide (TV.out.step bx)
        replace TU := hide (TU.out.step bx)
        replace B := hide (Below.step B.out B.out.size bx)
        clear hk bx p0 p1 p2
        go_wp2_with fail
        refine (copy_v TV.out (by omega) (by have := DL.out; omega)).mono ?_
        rintro e w6 ⟨v6, d6, rfl, t6, bx⟩
        obtain ⟨A6, n6, c6, rfl⟩ := rv_sl t6.tl.1
        replace Q := hide (Q.out.step bx)
        replace ZA := hide (ZA.out.step bx)
        replace TV := hide (TV.out.step bx)
        replace TU := hide (TU.out.step bx)
        replace ZK := hide (ZK.out.step bx)
        replace B := hide (Below.step B.out B.out.size bx)
        have TX := hide t6.tl
        clear t6 bx
        go_wp2_with fail
        refine (copy_v TU.out (by omega) (by have := FL.out; omega)).mono ?_
        rintro e w7 ⟨v7, d7, rfl, t7, bx⟩
        obtain ⟨A7, n7, c7, rfl⟩ := rv_sl t7.tl.1
        replace Q := hide (Q.out.step bx)
        replace ZA := hide (ZA.out.step bx)
        replace TV := hide (TV.out.step bx)
        replace TU := hide (TU.out.step bx)
        replace ZK := hide (ZK.out.step bx)
        replace TX := hide (TX.out.step bx)
        replace B := hide (Below.step B.out B.out.size bx)
        have TY := hide t7.tl
        clear t7 bx
        have bx := alloc_below w7 (rbox k0.s (sv k0.u) (sv k0.t))
        replace Q := hide (Q.out.step bx)
        replace ZA := hide (ZA.out.step bx)
        replace TV := hide (TV.out.step bx)
        replace TU := hide (TU.out.step bx)
        replace ZK := hide (ZK.out.step bx)
        replace TX := hide (TX.out.step bx)
        replace TY := hide (TY.out.step bx)
        replace B := hide (Below.step B.out B.out.size bx)
        have QK := hide (Bq.new w7 k0.s (sv k0.u) (sv k0.t))
        have MX := hide (TX.out.tms TV.out)
        have MY := hide (TY.out.tms TU.out)
        have KR := hide (show k0.r = a0.r from ZK.out.2.1.trans ZA.out.2.1.symm)
        have NX := hide (show d6.length = d.length from TX.out.2.1.trans TV.out.2.1.symm)
        have NY := hide (show d7.length = f.length from TY.out.2.1.trans TU.out.2.1.symm)
        clear bx
        go_wp2_with fail
        generalize (w7.alloc (rbox k0.s (sv k0.u) (sv k0.t))) = wm at *
        generalize w7.heap.size = g7 at *
        have C := hide (Below.refl wm.heap.size wm).drew
        have QK5 := hide (QK.out.step C.out)
        have A5 := hide ((ZK.out.step C.out).ra)
        have X5 := hide ((TX.out.step C.out).tv)
        have Y5 := hide ((TY.out.step C.out).tv)
        go_region_held3 (fun W => W.cell? ⟨g7, 0, none⟩ = some (.bool k0.s) ∧ W.cell? ⟨g7, 1, none⟩ = some (sv k0.u) ∧ W.cell? ⟨g7, 2, none⟩ = some (sv k0.t))
          (exact bq3 QK5.out)
          (first
            | (go_at_call 48; refine Calls.mono (axpy_t A5.out X5.out Y5.out (by have := NX.out; have := NY.out; have := DL.out; have := FL.out; omega) (by omega) (by omega) (by omega) (by omega)) ?_; rintro e wx ⟨v1, d1, rfl, t1, f1, g1, n1, bx⟩; have S1 := hide (t1.mono (B' := wm.heap.size) C.out.size); have F1 := hide f1; have G1 := hide g1; have N1 := hide n1; replace QK5 := hide (QK5.out.step bx); replace A5 := hide (A5.out.step bx); replace X5 := hide (X5.out.step bx); replace C := hide (Below.step C.out C.out.size bx); clear t1 f1 g1 n1 bx Y5)
            | (go_at_call 49; refine Calls.mono (scale_t A5.out X5.out (by have := NX.out; have := DL.out; omega) (by omega) (by omega) (by omega) (by omega)) ?_; rintro e wx ⟨v2, d2, rfl, t2, f2, g2, n2, bx⟩; have NE := hide (ow_ne S1.out.1 t2.1 (Nat.le_refl _)); have S2 := hide (t2.mono (B' := wm.heap.size) C.out.size); have F2 := hide f2; have G2 := hide g2; have N2 := hide n2; replace QK5 := hide (QK5.out.step bx); replace S1 := hide (S1.out.step bx); replace C := hide (Below.step C.out C.out.size bx); clear t2 f2 g2 n2 bx A5 X5))
        all_goals
          obtain ⟨A11, n11, c11, rfl⟩ := rv_sl S1.out.tv.1
          obtain ⟨A12, n12, c12, rfl⟩ := rv_sl S2.out.tv.1
          generalize wx = w8 at *
          have GA := hide (show ∀ c, 0 ≤ c → gsum (tms d1) c = a0.r * gsum (tms d) c + gsum (tms f) c from fun c hc => by rw [G1.out c hc, KR.out, MX.out, MY.out])
          have GB := hide (show ∀ c, 0 ≤ c → gsum (tms d2) c = a0.r * gsum (tms d) c from fun c hc => by rw [G2.out c hc, KR.out, MX.out])
          have L1 := hide (show (d6.length + d7.length) * (6 + 6 + 1) + 1 ≤ 100000 by have := NX.out; have := NY.out; have := DL.out; have := FL.out; omega)
          have L2 := hide (show d6.length * (6 + 6 + 1) + 1 ≤ 100000 by have := NX.out; have := DL.out; omega)
          have Q8 := hide (Q.out.step C.out)
          obtain ⟨p0, p1, p2⟩ := bq3 Q8.out
          clear G1 G2 QK5
          go_wp2_with fail
          refine (vaxpy_f (ZA.out.step C.out).ra (TV.out.step C.out).tv (TU.out.step C.out).tv (by have := DL.out; have := FL.out; omega) (by omega) (by omega) (by omega) (by omega)).mono ?_
          rintro e w9 ⟨v9, d9, rfl, t9, f9, g9, bx⟩
          have E9 := hide (Fm.unique F1.out f9 (fun c hc => (GA.out c hc).trans (g9 c hc).symm))
          have T9 := hide t9
          obtain ⟨A13, n13, c13, rfl⟩ := rv_sl t9.1
          replace S1 := hide (S1.out.step bx)
          replace S2 := hide (S2.out.step bx)
          replace C := hide (Below.step C.out C.out.size bx)
          clear t9 f9 g9 bx p0 p1 p2 Q8
          go_wp2_with fail
          refine (same_t S1.out.tc T9.out E9.out).mono ?_
          rintro e w10 ⟨rfl, bx⟩
          replace S1 := hide (S1.out.step bx)
          replace S2 := hide (S2.out.step bx)
          replace C := hide (Below.step C.out C.out.size bx)
          have Q8 := hide (Q.out.step C.out)
          obtain ⟨p0, p1, p2⟩ := bq3 Q8.out
          clear T9 E9 bx
          go_wp2_with fail
          refine (vaxpy_f (f := []) (ZA.out.step C.out).ra (TV.out.step C.out).tv ⟨Lr.nil et 4 _, fun x hx => by cases hx⟩ (by have := DL.out; simp; omega) (by omega) (by omega) (by omega) (by omega)).mono ?_
          rintro e w11 ⟨v9, d9, rfl, t9, f9, g9, bx⟩
          have E9 := hide (Fm.unique F2.out f9 (fun c hc => (GB.out c hc).trans ((g9 c hc).trans (by simp [tms, gsum, Rat.add_zero])).symm))
          have T9 := hide t9
          obtain ⟨A13, n13, c13, rfl⟩ := rv_sl t9.1
          replace S1 := hide (S1.out.step bx)
          replace S2 := hide (S2.out.step bx)
          replace C := hide (Below.step C.out C.out.size bx)
          clear t9 f9 g9 bx p0 p1 p2 Q8
          go_wp2_with fail
          refine (same_t S2.out.tc T9.out E9.out).mono ?_
          rintro e w12 ⟨rfl, bx⟩
          replace S1 := hide (S1.out.step bx)
          replace S2 := hide (S2.out.step bx)
          replace C := hide (Below.step C.out C.out.size bx)
          clear T9 E9 bx
          go_wp2_with fail
          refine (spoil_v (S1.out.sp (by have := L1.out; omega)) C.out.size (by have := N1.out; have := NX.out; have := NY.out; have := DL.out; have := FL.out; omega)).mono ?_
          rintro e w13 ⟨rfl, sp⟩
          have P2 := hide ((S2.out.sp (by have := L2.out; omega)).spo sp NE.out)
          replace C := hide (C.out.trans sp.1)
          clear sp S1 S2
          go_wp2_with fail
          refine (spoil_v P2.out C.out.size (by have := N2.out; have := NX.out; have := DL.out; omega)).mono ?_
          rintro e w14 ⟨rfl, sp⟩
          replace C := hide (C.out.trans sp.1)
          have Q8 := hide (Q.out.step C.out)
          have K8 := hide (QK.out.step C.out)
          obtain ⟨p0, p1, p2⟩ := bq3 Q8.out
          obtain ⟨q0, q1, q2⟩ := bq3 K8.out
          clear sp P2
          go_wp2_with fail
          refine (rsame_l (ZK.out.step C.out).rl (ZA.out.step C.out).rl).mono ?_
          rintro e w15 ⟨rfl, bx⟩
          replace C := hide (Below.step C.out C.out.size bx)
          clear bx p0 p1 p2 q0 q1 q2
          go_wp2_with fail
          refine (same_v (TX.out.step C.out) (TV.out.step C.out)).mono ?_
          rintro e w16 ⟨rfl, bx⟩
          replace C := hide (Below.step C.out C.out.size bx)
          clear bx
          go_wp2_with fail
          refine (same_v (TY.out.step C.out) (TU.out.step C.out)).mono ?_
          rintro e w17 ⟨rfl, bx⟩
          replace C := hide (Below.step C.out C.out.size bx)
          clear bx
          go_wp2_with fail
          go_ret
          exact ⟨rfl, Below.step B.out B.out.size C.out⟩
theorem vsums_go (w : World) (a0 : Rx) (ra : Rat) (v : Value) (d : List Tx) (u : Value) (f : List Tx) (ha : Ra w (rx a0) ra 17592186043904) (hv : Tv w v d 17592186043904) (hu : Tv w u f 17592186043904) :
    Calls Tryz.prog 5 #[rx a0, v, u] w fun e w' => e = .returned (.bool true) ∧ Below w.heap.size w w' := vsums_true w ⟨a0.s, a0.u, a0.t, ra⟩ v u d f ha hv hu
end Go.Proofs.YtajjpepjbflojaaGreat
