
/-
 The walk of VecLinear: true.
-/
import Derived.Test.YtehdkdoaamlkdaaGreatBundleO
import Derived.Test.YtehdkdoaamlkdaaGreatLat2


namespace Go.Proofs.YtehdkdoaamlkdaaGreat
open Go.RowKit Go.Proofs.YtehdkdoaamlkdaaGreat.Num
set_option linter.unusedVariables false
set_option linter.unusedSimpArgs false
set_option maxRecDepth 100000
end Go.Proofs.YtehdkdoaamlkdaaGreat
