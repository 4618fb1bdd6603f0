/-
  The document's own answer for whole numbers: Cmp.
-/
import Derived.Test.YtajjpepjbflojaaGreatBundleE

namespace Go.Proofs.YtajjpepjbflojaaGreat
open Go.RowKit Go.Proofs.YtajjpepjbflojaaGreat.Num
set_option linter.unusedVariables false
set_option maxRecDepth 100000

set_option maxHeartbeats 4000000 in
theorem qcmp_any {w : World} {u v : Value} {a b : Int} {L M K : Nat} (hu : Qi w u a L) (hv : Qi w v b M) (hL : L ≤ K) (hM : M ≤ K) (hK : K ≤ 400000000000) :
    Calls Tryz.prog 113 #[u, v] w fun e w' => e = .returned (.int .i64 (cmpZ a b)) ∧ Below w.heap.size w w' := by
  obtain ⟨s, x, A, n, c, rfl, -, -, -⟩ := id hu.parts
  obtain ⟨t, y, D, m, d, rfl, -, -, -⟩ := id hv.parts
  have a1 : Below w.heap.size w (w.alloc (qbox s (.slice A n c))) := (Below.refl _ _).alloc (Nat.le_refl _) _
  have a2 : Below w.heap.size w ((w.alloc (qbox s (.slice A n c))).alloc (qbox t (.slice D m d))) := a1.alloc (by simp) _
  have C := hide (qsub_any (hu.step a2) (hv.step a2) hL hM hK)
  have HA := hide a2
  rw [← zsg_sub]
  clear hu hv a1 a2
  go_enter Tryz.func113, Tryz.ntmps113
  go_wp2_with fail
  refine C.out.mono ?_
  rintro e w1 ⟨v, rfl, qv, b1⟩
  have H := hide qv
  have HA1 := hide (HA.out.trans (b1.mono HA.out.size))
  clear qv b1 C HA
  go_wp2_with fail
  refine (qsign_any H.out).mono ?_
  rintro e w2 ⟨rfl, b2⟩
  have HA2 := hide (HA1.out.trans (b2.mono HA1.out.size))
  clear H HA1 b2
  go_wp2_with fail
  go_ret
  exact ⟨rfl, HA2.out⟩
end Go.Proofs.YtajjpepjbflojaaGreat
