
/-
 The walk of VecDots: true.
-/
import Derived.Test.YtnhlomphdighnaaGreatVecFormsW
import Derived.Test.YtnhlomphdighnaaGreatVdot
import Derived.Test.YtnhlomphdighnaaGreatBundleR


namespace Go.Proofs.YtnhlomphdighnaaGreat
open Go.RowKit Go.Proofs.YtnhlomphdighnaaGreat.Num
set_option linter.unusedVariables false
set_option linter.unusedSimpArgs false
set_option maxRecDepth 100000
def gal (f : Int → Rat) : Nat → List Tm
 | 0 => []
 | k + 1 => gal f k ++ [((k : Int), f (k : Int))]
theorem gal_sum (f : Int → Rat) (k : Nat) (c : Int) : gsum (gal f k) c = if 0 ≤ c ∧ c < (k : Int) then f c else 0 := by
 induction k with
 | zero =>
  rw [if_neg (by omega)]
  rfl
 | succ k ih =>
  rw [gal, gsum_append, ih]
  by_cases hc : c = (k : Int)
  ·subst hc
   have ha : (if 0 ≤ (k : Int) ∧ (k : Int) < (k : Int) then f (k : Int) else 0) = 0 := if_neg (by omega)
   have hb : (if 0 ≤ (k : Int) ∧ (k : Int) < ((k + 1 : Nat) : Int) then f (k : Int) else 0) = f (k : Int) := if_pos (by omega)
   rw [ha, hb, Rat.zero_add]
   simp [gsum, Rat.add_zero]
  ·have h1 : gsum [((k : Int), f (k : Int))] c = 0 := by
    simp only [gsum]
    rw [if_neg (fun e => hc e.symm), Rat.add_zero]
   rw [h1, Rat.add_zero]
   by_cases h : 0 ≤ c ∧ c < (k : Int)
   ·rw [if_pos h, if_pos (by omega)]
   ·rw [if_neg h, if_neg (by omega)]
end Go.Proofs.YtnhlomphdighnaaGreat
