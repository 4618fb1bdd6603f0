
/-
 Stages of a drawn region: facts on fractions.
-/
import Derived.Test.YthnlehknbkiomaaGreatLatC
import Derived.Test.YthnlehknbkiomaaGreatBundleF
import Derived.Test.YthnlehknbkiomaaGreatBundleG


namespace Go.Proofs.YthnlehknbkiomaaGreat
open Go.RowKit Go.Proofs.YthnlehknbkiomaaGreat.Num
set_option linter.unusedVariables false
set_option maxRecDepth 100000
end Go.Proofs.YthnlehknbkiomaaGreat
