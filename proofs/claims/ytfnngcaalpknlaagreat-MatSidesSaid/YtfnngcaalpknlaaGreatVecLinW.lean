
/-
 The walk of VecLinear: true.
-/
import Derived.Test.YtfnngcaalpknlaaGreatBundleO
import Derived.Test.YtfnngcaalpknlaaGreatLat2


namespace Go.Proofs.YtfnngcaalpknlaaGreat
open Go.RowKit Go.Proofs.YtfnngcaalpknlaaGreat.Num
set_option linter.unusedVariables false
set_option linter.unusedSimpArgs false
set_option maxRecDepth 100000
end Go.Proofs.YtfnngcaalpknlaaGreat
