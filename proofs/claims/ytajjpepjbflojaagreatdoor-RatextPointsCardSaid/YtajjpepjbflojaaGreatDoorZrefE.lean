/-
  The document's own answer for whole numbers: Text.
-/
import Derived.Test.YtajjpepjbflojaaGreatDoorBundleE
import Derived.Test.YtajjpepjbflojaaGreatDoorZint6


namespace Go.Proofs.YtajjpepjbflojaaGreatDoor
open Go.RowKit Go.Proofs.YtajjpepjbflojaaGreatDoor.Num
set_option linter.unusedVariables false
set_option maxRecDepth 100000

theorem rdtext_len {n L : Nat} (h : n < 10000 ^ L) : (dtext n).length ≤ 4 * L + 1 := by
  unfold dtext
  split
  · simp
  · rw [List.length_reverse, List.length_map]
    have h2 : 10000 ^ L = (10 ^ 4) ^ L := rfl
    rw [h2, ← Nat.pow_mul] at h
    have := cn_length_le (B := 10) (by omega) h
    omega

set_option maxHeartbeats 1000000 in
theorem qtext_any {w : World} {v : Value} {z : Int} {L : Nat} (h : Qi w v z L) (hL : L ≤ 10000000000) :
    Calls Tryz.prog 21 #[v] w fun e w' => e = .returned (.string ⟨(ztxt z).toArray⟩) ∧ Below w.heap.size w w' := by
  obtain ⟨u, rfl, hc⟩ := h
  obtain ⟨A, n, c, rfl⟩ := hc.iw.slice
  have a1 : Below w.heap.size w (w.alloc (qbox (decide (z < 0)) (.slice A n c))) := (Below.refl _ _).alloc (Nat.le_refl _) _
  have HA := hide a1
  obtain ⟨T, hT⟩ : ∃ T : ByteArray, Tx T z.natAbs := ⟨_, Tx.of _⟩
  have TS := hide (rtext_s (hc.step a1).iw hT (by omega))
  have hts : T.size ≤ 40000000001 := by
    have h1 := rdtext_len (n := z.natAbs) (L := L) hc.iw.lt
    rw [← show T.data.toList = dtext z.natAbs from hT, Array.length_toList] at h1
    show T.data.size ≤ _
    omega
  clear hc a1
  by_cases h0 : z < 0
  · have e : ztxt z = 45 :: T.data.toList := by unfold ztxt; rw [if_pos h0]; rw [show T.data.toList = dtext z.natAbs from hT]
    have t0 : decide (z < 0) = true := decide_eq_true h0
    rw [t0] at TS HA
    rw [e, t0]
    clear h0 e hT t0
    go_enter Tryz.func21, Tryz.ntmps21
    go_wp2_with fail
    refine TS.out.mono ?_
    rintro e w2 ⟨rfl, b2⟩
    have B2 := hide (HA.out.trans (b2.mono HA.out.size))
    clear TS HA b2
    go_wp2_with fail
    go_ret
    exact ⟨by rw [← cat45]; rfl, B2.out⟩
  · have e : (⟨(ztxt z).toArray⟩ : ByteArray) = T := by unfold ztxt; rw [if_neg h0]; exact Tx.eq hT
    have t0 : decide (z < 0) = false := decide_eq_false h0
    rw [t0] at TS HA
    rw [e, t0]
    clear h0 e hT t0
    go_enter Tryz.func21, Tryz.ntmps21
    go_wp2_with fail
    refine TS.out.mono ?_
    rintro e w2 ⟨rfl, b2⟩
    have B2 := hide (HA.out.trans (b2.mono HA.out.size))
    clear TS HA b2
    go_wp2_with fail
    go_ret
    exact ⟨rfl, B2.out⟩
end Go.Proofs.YtajjpepjbflojaaGreatDoor
