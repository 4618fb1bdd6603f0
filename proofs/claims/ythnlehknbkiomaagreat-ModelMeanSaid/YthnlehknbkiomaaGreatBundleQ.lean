/-
  Shared texts, one behind the other: Kref2, Kref4, Kref6, Kref7.
-/
import Derived.Test.YthnlehknbkiomaaGreatBundleN
import Derived.Test.YthnlehknbkiomaaGreatBundleH
import Derived.Test.YthnlehknbkiomaaGreatKdrw
import Derived.Test.YthnlehknbkiomaaGreatBundleM
import Derived.Test.YthnlehknbkiomaaGreatBundleI

namespace Go.Proofs.YthnlehknbkiomaaGreat
open Go.RowKit Go.Proofs.YthnlehknbkiomaaGreat.Num
set_option linter.unusedVariables false
set_option linter.unusedSimpArgs false
set_option maxRecDepth 100000
theorem BRet.tr {P : Prop} {e : Ending} (h : BRet P e) (p : P) : e = .returned (.bool true) := by
 obtain ⟨b, rfl, hb⟩ := h
 rw [hb.2 p]
theorem BRet.fa {P : Prop} {e : Ending} (h : BRet P e) (p : ¬ P) : e = .returned (.bool false) := by
 obtain ⟨b, rfl, hb⟩ := h
 cases b
 ·rfl
 ·exact absurd (hb.1 rfl) p

end Go.Proofs.YthnlehknbkiomaaGreat
