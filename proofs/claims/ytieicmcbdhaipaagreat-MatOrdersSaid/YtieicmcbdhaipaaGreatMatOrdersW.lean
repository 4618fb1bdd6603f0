/-
  The walk of MatOrders: true.
-/
import Derived.Test.YtieicmcbdhaipaaGreatBundleJ
import Derived.Test.YtieicmcbdhaipaaGreatBundleL


namespace Go.Proofs.YtieicmcbdhaipaaGreat
open Go.RowKit Go.Proofs.YtieicmcbdhaipaaGreat.Num
set_option linter.unusedVariables false
set_option linter.unusedSimpArgs false
set_option maxRecDepth 100000

set_option maxHeartbeats 16000000 in
theorem morders_go (w : World) (v : Value) (m : List Vx) (u : Value) (d : List Int) (hv : Mv w v m 17592186043904) (hu : Lr ei 1 w u d) :
    Calls Tryz.prog 13 #[v, u] w fun e w' => e = .returned (.bool true) ∧ Below w.heap.size w w' := by
  obtain ⟨A1, n1, c1, rfl⟩ := rv_sl hv.1
  obtain ⟨A2, n2, c2, rfl⟩ := rv_sl hu
  have V := hide hv
  have U := hide hu
  have HN := hide (show n2 = d.length by
    obtain ⟨_, _, e, _⟩ := hu
    injection e)
  have hn2 : n2 ≤ 9223372036854775807 := by
    have h1 : d.length ≤ maxLen := hu.len
    have h2 := HN.out
    unfold maxLen at h1
    omega
  clear hv hu
  go_enter Tryz.func13, Tryz.ntmps13
  go_wp2_with fail
  refine (mspeaks_true w).mono ?_
  rintro e w2 ⟨rfl, bx⟩
  replace V := hide (V.out.step bx)
  replace U := hide (U.out.step bx)
  have B := hide bx
  clear bx
  go_wp2_with fail
  refine (great_m V.out (by omega)).mono ?_
  rintro e w3 ⟨bx, p, rfl, hp⟩
  replace V := hide (V.out.step bx)
  replace U := hide (U.out.step bx)
  replace B := hide (Below.step B.out B.out.size bx)
  have HP := hide hp
  clear bx hp
  cases p with
  | true =>
    go_wp2_with fail
    go_ret
    exact ⟨rfl, B.out⟩
  | false =>
    obtain ⟨dl, dm⟩ := HP.out rfl
    replace V := hide (V.out.tight (fun x hx => (dm x hx).2))
    have VL := hide dl
    have VM := hide (fun x hx => (dm x hx).1 : ∀ x ∈ m, x.d.length ≤ 30)
    clear dl dm HP
    by_cases hlong : 40 < n2
    · have q1 : decide ((40 : Int) < (n2 : Int)) = true := decide_eq_true (by omega)
      have q2 : decide (40 < n2) = true := decide_eq_true hlong
      go_wp2_with fail
      go_ret
      exact ⟨rfl, B.out⟩
    · have q1 : decide ((40 : Int) < (n2 : Int)) = false := decide_eq_false (by omega)
      have q2 : decide (40 < n2) = false := decide_eq_false hlong
      have UL := hide (show d.length ≤ 40 by have := HN.out; omega)
      clear hlong
      obtain ⟨zv, hzv⟩ := ml_of V.out
      have MV := hide hzv
      clear hzv V
      go_wp2_with fail
      refine (copy_m MV.out (by omega) (by have := VL.out; omega) (fun x hx => by have := VM.out x hx; omega)).mono ?_
      rintro e wm ⟨v5, m5, rfl, t5, bx⟩
      obtain ⟨A5, n5, c5, rfl⟩ := rv_sl t5.ml.1
      replace MV := hide (MV.out.step bx)
      replace U := hide (U.out.step bx)
      replace B := hide (Below.step B.out B.out.size bx)
      have MX := hide t5.ml
      have EM := hide (show rwA m5 = rwA m from MX.out.rwA MV.out)
      have NM := hide (MV.out.lens MX.out VM.out)
      have NL := hide (show m5.length = m.length by have := MX.out.2.1; have := MV.out.2.1; omega)
      clear t5 bx
      go_wp2_with fail
      refine (rows_m (P := 211) MX.out.mv U.out NM.out (by omega) (by have := NL.out; have := VL.out; omega) (by have := UL.out; omega) (by omega) (by omega) (by omega)).mono ?_
      rintro e w6 ⟨A6, n6, c6, z6, m6, rfl, a6, bx⟩
      have C := hide bx
      have P6 := hide a6
      clear a6 bx
      go_wp2_with fail
      refine (columns_m (P1 := 211) (P2 := 6361) (MX.out.mv.step C.out) (U.out.step C.out) NM.out (by omega) (by have := NL.out; have := VL.out; omega) (by have := UL.out; omega) (by omega) (by omega) (by omega) (by omega) (by omega)).mono ?_
      rintro e w7 ⟨A7, n7, c7, z7, m7, rfl, a7, bx⟩
      have P7 := hide (anss_mono a7 (B' := wm.heap.size) C.out.size)
      have P6g := hide (P6.out.1.step bx)
      replace C := hide (Below.step C.out C.out.size bx)
      clear a7 bx
      go_wp2_with fail
      refine (rrows_m (P := 936) (MV.out.mv.step C.out) (U.out.step C.out) VM.out (by omega) (by have := VL.out; omega) (by have := UL.out; omega) (by omega) (by omega) (by omega)).mono ?_
      rintro e w8 ⟨A8, n8, c8, z8, m8, rfl, a8, bx⟩
      have P8 := hide a8
      have G8 := hide a8.1.mc
      replace P6g := hide (P6g.out.step bx)
      have P7g := hide (P7.out.1.step bx)
      replace C := hide (Below.step C.out C.out.size bx)
      clear a8 bx
      go_wp2_with fail
      refine (rcolumns_m (R := 211) (P := 42246) (MV.out.mv.step C.out) (U.out.step C.out) VM.out (by omega) (by have := VL.out; omega) (by have := UL.out; omega) (by omega) (by omega) (by omega) (by omega) (by have := Nat.mul_le_mul_right (5 * 211 + 1) UL.out; omega)).mono ?_
      rintro e w9 ⟨A9, n9, c9, z9, m9, rfl, a9, bx⟩
      have G9 := hide a9.1.mc
      have EA := hide (ans_eq P6.out P8.out ⟨fun h => ⟨h.1, by rw [h.2]; exact NL.out⟩, fun h => ⟨h.1, by rw [h.2]; exact NL.out.symm⟩⟩ (by rw [po_len, po_len]) (fun j x x' y y' hx hx' h h' => by
        have e := po_tms EM.out NL.out hx hx'
        exact Fm.unique h.1 h'.1 (fun c hc => by rw [h.2.1 c hc, h'.2.1 c hc, e])))
      have EB := hide (ans_eq P7.out a9 ⟨fun h => ⟨h.1, fun k => h.2 (mtbad_eq EM.out.symm NL.out.symm _ k)⟩, fun h => ⟨h.1, fun k => h.2 (mtbad_eq EM.out NL.out _ k)⟩⟩ NL.out (fun j x x' y y' hx hx' h h' => by
        have e := at_tms EM.out hx hx'
        exact Fm.unique h.1 h'.1 (fun c hc => by rw [h.2.1 c hc, h'.2 c hc, e])))
      have LA := hide (anss_lens (K := 1000000) P6.out (fun x y hx h => by have := po_mem NM.out x hx; have := h.2.2; omega))
      have LB := hide (anss_lens (K := 1000000) P7.out (fun x y hx h => by have := NM.out x hx; have := h.2.2; omega))
      have LC := hide (show m6.length ≤ 1000000 ∧ m7.length ≤ 1000000 by have h1 := LA.out.2; have h2 := LB.out.2; rw [po_len] at h1; have := UL.out; have := NL.out; have := VL.out; omega)
      replace P6g := hide (P6g.out.step bx)
      replace P7g := hide (P7g.out.step bx)
      replace G8 := hide (G8.out.step bx)
      replace C := hide (Below.step C.out C.out.size bx)
      obtain rfl := EA.out.1
      obtain rfl := EB.out.1
      have t6 : (z6 != z6) = false := by simp
      have t7 : (z7 != z7) = false := by simp
      clear a9 bx P6 P7 P8 U
      go_wp2_with fail
      refine (same_mt P6g.out.mc G8.out EA.out.2.1 EA.out.2.2).mono ?_
      rintro e w10 ⟨rfl, bx⟩
      replace P6g := hide (P6g.out.step bx)
      replace P7g := hide (P7g.out.step bx)
      replace G9 := hide (G9.out.step bx)
      replace C := hide (Below.step C.out C.out.size bx)
      clear bx G8 EA
      go_wp2_with fail
      refine (same_mt P7g.out.mc G9.out EB.out.2.1 EB.out.2.2).mono ?_
      rintro e w11 ⟨rfl, bx⟩
      replace P6g := hide (P6g.out.step bx)
      replace P7g := hide (P7g.out.step bx)
      replace C := hide (Below.step C.out C.out.size bx)
      clear bx G9 EB
      have S6 := hide (P6g.out.spc (by omega) LA.out.1)
      have S7 := hide (P7g.out.spc (by omega) LB.out.1)
      go_wp2_with fail
      refine (mspoil_m P6g.out.1 S6.out C.out.size LC.out.1).mono ?_
      rintro e w12 ⟨rfl, sp⟩
      obtain ⟨m7', h1, h2⟩ := spn_rows sp m7 S7.out
      have O7 := hide (ow_em (sp.ow (by decide) (by decide) P7g.out.1) h1)
      have S7' := hide h2
      have L7 := hide (show m7'.length ≤ 1000000 by have e := congrArg List.length h1; rw [List.length_map, List.length_map] at e; rw [e]; exact LC.out.2)
      replace C := hide (C.out.trans sp.1)
      clear sp h1 h2 P6g P7g S6 S7
      go_wp2_with fail
      refine (mspoil_m O7.out S7'.out C.out.size L7.out).mono ?_
      rintro e w13 ⟨rfl, sp⟩
      replace C := hide (C.out.trans sp.1)
      clear sp O7 S7'
      go_wp2_with fail
      refine (same_mv (MX.out.step C.out) (MV.out.step C.out)).mono ?_
      rintro e w14 ⟨rfl, bx⟩
      replace C := hide (Below.step C.out C.out.size bx)
      clear bx
      go_wp2_with fail
      go_ret
      exact ⟨rfl, Below.step B.out B.out.size C.out⟩
end Go.Proofs.YtieicmcbdhaipaaGreat
