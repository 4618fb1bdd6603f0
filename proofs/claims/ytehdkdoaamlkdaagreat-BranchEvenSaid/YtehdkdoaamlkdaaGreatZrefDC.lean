
/-
 The document's own answer for whole numbers: Cmp.
-/
import Derived.Test.YtehdkdoaamlkdaaGreatBundleE

namespace Go.Proofs.YtehdkdoaamlkdaaGreat
open Go.RowKit Go.Proofs.YtehdkdoaamlkdaaGreat.Num
set_option linter.unusedVariables false
set_option maxRecDepth 100000
end Go.Proofs.YtehdkdoaamlkdaaGreat
