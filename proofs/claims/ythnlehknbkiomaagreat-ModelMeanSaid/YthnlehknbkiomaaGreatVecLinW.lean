
/-
 The walk of VecLinear: true.
-/
import Derived.Test.YthnlehknbkiomaaGreatBundleO
import Derived.Test.YthnlehknbkiomaaGreatLat2


namespace Go.Proofs.YthnlehknbkiomaaGreat
open Go.RowKit Go.Proofs.YthnlehknbkiomaaGreat.Num
set_option linter.unusedVariables false
set_option linter.unusedSimpArgs false
set_option maxRecDepth 100000
end Go.Proofs.YthnlehknbkiomaaGreat
