
/-
 Stages of a drawn region: facts on fractions.
-/
import Derived.Test.YtehdkdoaamlkdaaGreatLatC
import Derived.Test.YtehdkdoaamlkdaaGreatBundleF
import Derived.Test.YtehdkdoaamlkdaaGreatBundleG


namespace Go.Proofs.YtehdkdoaamlkdaaGreat
open Go.RowKit Go.Proofs.YtehdkdoaamlkdaaGreat.Num
set_option linter.unusedVariables false
set_option maxRecDepth 100000
end Go.Proofs.YtehdkdoaamlkdaaGreat
