/-
  Whole numbers: Text, Parse.
-/
import Derived.Test.YtajjpepjbflojaaGreatDoorBundleD
import Derived.Test.YtajjpepjbflojaaGreatDoorBundleC


namespace Go.Proofs.YtajjpepjbflojaaGreatDoor
open Go.RowKit Go.Proofs.YtajjpepjbflojaaGreatDoor.Num
set_option linter.unusedVariables false
set_option maxRecDepth 100000

def ztxt (a : Int) : List UInt8 := if a < 0 then 45 :: dtext a.natAbs else dtext a.natAbs

theorem cat45 (T : ByteArray) : ((⟨#[45]⟩ : ByteArray) ++ T) = ⟨(45 :: T.data.toList).toArray⟩ := by
  apply ByteArray.ext
  rw [ByteArray.data_append]
  apply Array.ext'
  simp

set_option maxHeartbeats 2000000 in
theorem ztext_any {w : World} {u : Value} {a : Int} {L : Nat} (hu : Za w u a L) (hL : L ≤ 1000000000) :
    Calls Tryz.prog 20 #[u] w fun e w' => e = .returned (.string ⟨(ztxt a).toArray⟩) ∧ Below w.heap.size w w' := by
  obtain ⟨s, u, x, rfl, hu, hx⟩ := hu
  obtain ⟨A, n, c, rfl⟩ := hu.slice
  have a1 : Below w.heap.size w (w.alloc (zbox s (.slice A n c))) := (Below.refl _ _).alloc (Nat.le_refl _) _
  have p1 : (w.alloc (zbox s (.slice A n c))).cell? ⟨w.heap.size, 1, none⟩ = some (.slice A n c) := by go_simp
  have HU := hide (hu.step a1)
  have S1 := hide (sign_any (s := s) (hu.step a1) (by omega))
  have hsz := zsgn_zi s x
  rw [hx] at hsz
  have hxa : a.natAbs = x := by rw [← hx]; exact zi_abs s x
  have HA := hide a1
  obtain ⟨sa, hsa⟩ : ∃ sa, zsgn s x = sa := ⟨_, rfl⟩
  rw [hsa] at S1 hsz
  obtain ⟨T, hT⟩ : ∃ T : ByteArray, Tx T x := ⟨_, Tx.of x⟩
  have TS := hide hT
  have hts : T.size ≤ 20000000001 := by
    have h1 := dtext_len (n := x) (L := L) hu.lt
    rw [← show T.data.toList = dtext x from hT, Array.length_toList] at h1
    show T.data.size ≤ _
    omega
  clear hu a1 hsa
  by_cases h0 : a < 0
  · have t1 : decide (sa < 0) = true := decide_eq_true (by rw [hsz]; unfold zsg; rw [if_neg (by omega), if_pos h0]; omega)
    have e : ztxt a = 45 :: T.data.toList := by unfold ztxt; rw [if_pos h0, hxa]; rw [show T.data.toList = dtext x from hT]
    rw [e]
    clear hsz hxa hx h0 e hT
    go_enter Tryz.func20, Tryz.ntmps20
    go_wp2_with fail
    refine S1.out.mono ?_
    rintro e w1 ⟨rfl, b1⟩
    have q1 := cell_keep p1 b1
    have TT := hide (text_s (HU.out.step b1) TS.out (by omega))
    have B1 := hide (HA.out.trans (b1.mono HA.out.size))
    clear p1 S1 HU HA b1
    go_wp2_with fail
    refine TT.out.mono ?_
    rintro e w2 ⟨rfl, b2⟩
    have B2 := hide (B1.out.trans (b2.mono B1.out.size))
    clear TT B1 b2
    go_wp2_with fail
    go_ret
    exact ⟨by rw [← cat45]; rfl, B2.out⟩
  · have t1 : decide (sa < 0) = false := decide_eq_false (by rw [hsz]; unfold zsg; split <;> first | omega | (rw [if_neg h0]; omega))
    have e : (⟨(ztxt a).toArray⟩ : ByteArray) = T := by unfold ztxt; rw [if_neg h0, hxa]; exact Tx.eq hT
    rw [e]
    clear hsz hxa hx h0 e hT
    go_enter Tryz.func20, Tryz.ntmps20
    go_wp2_with fail
    refine S1.out.mono ?_
    rintro e w1 ⟨rfl, b1⟩
    have q1 := cell_keep p1 b1
    have TT := hide (text_s (HU.out.step b1) TS.out (by omega))
    have B1 := hide (HA.out.trans (b1.mono HA.out.size))
    clear p1 S1 HU HA b1
    go_wp2_with fail
    refine TT.out.mono ?_
    rintro e w2 ⟨rfl, b2⟩
    have B2 := hide (B1.out.trans (b2.mono B1.out.size))
    clear TT B1 b2
    go_wp2_with fail
    go_ret
    exact ⟨rfl, B2.out⟩
end Go.Proofs.YtajjpepjbflojaaGreatDoor
