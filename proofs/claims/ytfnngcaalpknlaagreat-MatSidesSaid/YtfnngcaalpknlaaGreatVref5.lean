
/-
 The document's own Axpy.
-/
import Derived.Test.YtfnngcaalpknlaaGreatBundleH


namespace Go.Proofs.YtfnngcaalpknlaaGreat
open Go.RowKit Go.Proofs.YtfnngcaalpknlaaGreat.Num
set_option linter.unusedVariables false
set_option linter.unusedSimpArgs false
set_option maxRecDepth 100000
theorem Bq.off {W W' : World} {B g : Nat} {v : Value} {d : List Tx} {s : Bool} {u t : Value} (hq : Bq W g s u t) (hT : Ow 77 et 4 W B v d) (hg : W.grownBy W' v.ownBlock) : Bq W' g s u t := by
 refine (hg.block g hq.lt (fun he => ?_)).trans hq
 rcases hT.form with ⟨rfl, _⟩ | ⟨g', cap', cur, rfl, _, _, hh', _⟩
 ·cases he
 ·have e : g' = g := by simpa [Value.ownBlock] using he.symm
  subst e
  unfold Bq at hq
  rw [hq] at hh'
  injection hh' with hh'
  injection hh' with _ ht
  exact absurd ht (by decide)
end Go.Proofs.YtfnngcaalpknlaaGreat
