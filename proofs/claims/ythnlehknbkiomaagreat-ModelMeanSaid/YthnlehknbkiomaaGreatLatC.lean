
/-
 A region that draws its order and makes variables among its calls: its stages, for any number of variables of any kind.
-/
import Derived.Test.YthnlehknbkiomaaGreatBundleF
import Derived.Test.YthnlehknbkiomaaGreatBundleE


namespace Go.Proofs.YthnlehknbkiomaaGreat
open Go.RowKit Go.Proofs.YthnlehknbkiomaaGreat.Num
set_option linter.unusedVariables false
set_option maxRecDepth 100000
end Go.Proofs.YthnlehknbkiomaaGreat
