/-
  The walk of MatProducts: true.
-/
import Derived.Test.YtieicmcbdhaipaaGreatBundleJ
import Derived.Test.YtieicmcbdhaipaaGreatBundleK


namespace Go.Proofs.YtieicmcbdhaipaaGreat
open Go.RowKit Go.Proofs.YtieicmcbdhaipaaGreat.Num
set_option linter.unusedVariables false
set_option linter.unusedSimpArgs false
set_option maxRecDepth 100000

set_option maxHeartbeats 16000000 in
theorem mproducts_go (w : World) (v : Value) (m : List Vx) (u : Value) (b : List Vx) (hv : Mv w v m 17592186043904) (hu : Mv w u b 17592186043904) :
    Calls Tryz.prog 12 #[v, u] w fun e w' => e = .returned (.bool true) ∧ Below w.heap.size w w' := by
  obtain ⟨A1, n1, c1, rfl⟩ := rv_sl hv.1
  obtain ⟨A2, n2, c2, rfl⟩ := rv_sl hu.1
  have V := hide hv
  have U := hide hu
  clear hv hu
  go_enter Tryz.func12, Tryz.ntmps12
  go_wp2_with fail
  refine (mspeaks_true w).mono ?_
  rintro e w2 ⟨rfl, bx⟩
  replace V := hide (V.out.step bx)
  replace U := hide (U.out.step bx)
  have B := hide bx
  clear bx
  go_wp2_with fail
  refine (great_m V.out (by omega)).mono ?_
  rintro e w3 ⟨bx, p, rfl, hp⟩
  replace V := hide (V.out.step bx)
  replace U := hide (U.out.step bx)
  replace B := hide (Below.step B.out B.out.size bx)
  have HP := hide hp
  clear bx hp
  cases p with
  | true =>
    go_wp2_with fail
    go_ret
    exact ⟨rfl, B.out⟩
  | false =>
    obtain ⟨dl, dm⟩ := HP.out rfl
    replace V := hide (V.out.tight (fun x hx => (dm x hx).2))
    have VL := hide dl
    have VM := hide (fun x hx => (dm x hx).1 : ∀ x ∈ m, x.d.length ≤ 30)
    clear dl dm HP
    go_wp2_with fail
    refine (great_m U.out (by omega)).mono ?_
    rintro e w4 ⟨bx, p, rfl, hp⟩
    replace V := hide (V.out.step bx)
    replace U := hide (U.out.step bx)
    replace B := hide (Below.step B.out B.out.size bx)
    have HP := hide hp
    clear bx hp
    cases p with
    | true =>
      go_wp2_with fail
      go_ret
      exact ⟨rfl, B.out⟩
    | false =>
      obtain ⟨dl, dm⟩ := HP.out rfl
      replace U := hide (U.out.tight (fun x hx => (dm x hx).2))
      have UL := hide dl
      have UM := hide (fun x hx => (dm x hx).1 : ∀ x ∈ b, x.d.length ≤ 30)
      clear dl dm HP
      obtain ⟨zv, hzv⟩ := ml_of V.out
      obtain ⟨zu, hzu⟩ := ml_of U.out
      have MV := hide hzv
      have MU := hide hzu
      clear hzv hzu V U
      go_wp2_with fail
      refine (copy_m MV.out (by omega) (by have := VL.out; omega) (fun x hx => by have := VM.out x hx; omega)).mono ?_
      rintro e w5 ⟨v5, m5, rfl, t5, bx⟩
      obtain ⟨A5, n5, c5, rfl⟩ := rv_sl t5.ml.1
      replace MV := hide (MV.out.step bx)
      replace MU := hide (MU.out.step bx)
      replace B := hide (Below.step B.out B.out.size bx)
      have MX := hide t5.ml
      clear t5 bx
      go_wp2_with fail
      refine (copy_m MU.out (by omega) (by have := UL.out; omega) (fun x hx => by have := UM.out x hx; omega)).mono ?_
      rintro e wm ⟨v6, b6, rfl, t6, bx⟩
      obtain ⟨A6, n6, c6, rfl⟩ := rv_sl t6.ml.1
      replace MV := hide (MV.out.step bx)
      replace MU := hide (MU.out.step bx)
      replace MX := hide (MX.out.step bx)
      replace B := hide (Below.step B.out B.out.size bx)
      have MY := hide t6.ml
      have EM := hide (MX.out.rwA MV.out)
      have EB := hide (MY.out.rwA MU.out)
      have NM := hide (MV.out.lens MX.out VM.out)
      have NB := hide (MU.out.lens MY.out UM.out)
      have NL := hide (show m5.length = m.length by have := MX.out.2.1; have := MV.out.2.1; omega)
      have NK := hide (show b6.length = b.length by have := MY.out.2.1; have := MU.out.2.1; omega)
      clear t6 bx
      go_wp2_with fail
      refine (product_m (N1 := 30) (N := 30) (P := 391) (Q := 352801) MX.out.mv MY.out.mv NM.out NB.out (fun q hq => by omega) (by omega) (by omega) (by omega) (by omega) (by omega) (by omega) (by omega) (by omega) (by have := NL.out; have := VL.out; omega) (by omega)).mono ?_
      rintro e w7 ⟨v7, m7, rfl, o7, s7, bx⟩
      obtain ⟨A7, n7, c7, rfl⟩ := rv_sl (o7.rl em_len)
      have C := hide bx
      have P7 := hide (s7.mg o7)
      have L7 := hide (s7.1.trans NL.out)
      have R7 := hide (show ∀ (j : Nat) x y, m[j]? = some x → m7[j]? = some y → Fm (tms y.d) ∧ (∀ c, 0 ≤ c → gsum (tms y.d) c = dt (tms x.d) (fun i => gsum (rwA b i) c)) ∧ y.d.length ≤ 900 from fun j x y hx hy => by
        obtain ⟨x', hx'⟩ := len_of (d := m5) (k := j) (by rw [NL.out]; exact (List.getElem?_eq_some_iff.1 hx).1)
        have h := s7.rel hx' hy
        have e1 : tms x'.d = tms x.d := by rw [← rwA_in hx', ← rwA_in hx, EM.out]
        have n1 := NM.out x' (List.mem_of_getElem? hx')
        refine ⟨h.1, fun c hc => ?_, by have := h.2.2; omega⟩
        rw [h.2.1 c hc, e1, EB.out])
      have S7 := hide (P7.out.spc (by omega) (fun y hy => by
        obtain ⟨j, hj⟩ := List.getElem?_of_mem hy
        obtain ⟨x, hx⟩ := len_of (d := m) (k := j) (by rw [← L7.out]; exact (List.getElem?_eq_some_iff.1 hj).1)
        have := (R7.out j x y hx hj).2.2
        omega))
      clear o7 s7 bx
      go_wp2_with fail
      refine (rproduct_m (L := 6) (K := 6) (N := 30) (N1 := 30) (M := 10000) (R := 211) (MV.out.step C.out).mv (MU.out.step C.out).mv VM.out UM.out (by omega) (by omega) (by omega) (by omega) (by omega) (by have := VL.out; omega) (by have := UL.out; omega) (by have := UL.out; omega) (by omega) (by omega) (fun x hx k hk c => by
        have hx6 := tsz (MV.out.mv.2 x hx) (by omega)
        have hd := VM.out x hx
        refine (sz_rows (K := 211) (L := 6) (N := 30) (y := gsum (tms x.d)) (by omega) (fun i => (sz_gsum (B := Q) Q_two i hx6).more Q_pos (by rw [tms_len]; omega)) (fun i => rwA_szs MU.out.mv UM.out (by omega) i) c k).more Q_pos (by
          have := UL.out
          have := Nat.mul_le_mul_right 423 (Nat.le_trans hk UL.out)
          omega)) (by omega) (by omega)).mono ?_
      rintro e w8 ⟨v8, m8, rfl, g8, n8, r8, bx⟩
      obtain ⟨A8, n8', c8, rfl⟩ := rv_sl g8.mc.1
      have G8 := hide g8.mc
      have E8 := hide (show ∀ (i : Nat) x y, m7[i]? = some x → m8[i]? = some y → tms x.d = tms y.d from fun i x y hx hy => by
        obtain ⟨z, hz⟩ := len_of (d := m) (k := i) (by rw [← L7.out]; exact (List.getElem?_eq_some_iff.1 hx).1)
        have h1 := R7.out i z x hz hx
        have h2 := r8 i y hy z hz
        exact Fm.unique h1.1 h2.1 (fun c hc => (h1.2.1 c hc).trans (h2.2.1 c hc).symm))
      have N8 := hide (show m8.length = m7.length by rw [n8, L7.out])
      replace P7 := hide (P7.out.step bx)
      replace S7 := hide (fun x hx => ⟨(S7.out x hx).1.step bx, (S7.out x hx).2⟩ : ∀ x ∈ m7, SpC w8 _ _ (sv x.a) x.d ∧ x.d.length ≤ 1000000)
      replace C := hide (Below.step C.out C.out.size bx)
      clear g8 n8 r8 bx
      go_wp2_with fail
      refine (same_mt P7.out.mc G8.out N8.out E8.out).mono ?_
      rintro e w9 ⟨rfl, bx⟩
      replace P7 := hide (P7.out.step bx)
      replace S7 := hide (fun x hx => ⟨(S7.out x hx).1.step bx, (S7.out x hx).2⟩ : ∀ x ∈ m7, SpC w9 _ _ (sv x.a) x.d ∧ x.d.length ≤ 1000000)
      replace C := hide (Below.step C.out C.out.size bx)
      clear bx G8 E8 N8
      go_wp2_with fail
      refine (mspoil_m P7.out.1 S7.out C.out.size (by have := L7.out; have := VL.out; omega)).mono ?_
      rintro e w10 ⟨rfl, sp⟩
      replace C := hide (C.out.trans sp.1)
      clear sp P7 S7
      go_wp2_with fail
      refine (same_mv (MX.out.step C.out) (MV.out.step C.out)).mono ?_
      rintro e w11 ⟨rfl, bx⟩
      replace C := hide (Below.step C.out C.out.size bx)
      clear bx
      go_wp2_with fail
      refine (same_mv (MY.out.step C.out) (MU.out.step C.out)).mono ?_
      rintro e w12 ⟨rfl, bx⟩
      replace C := hide (Below.step C.out C.out.size bx)
      clear bx
      go_wp2_with fail
      go_ret
      exact ⟨rfl, Below.step B.out B.out.size C.out⟩
end Go.Proofs.YtieicmcbdhaipaaGreat
