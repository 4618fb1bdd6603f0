
/-
 The walk of VecLinear: true.
-/
import Derived.Test.YtofmhfbbedalbaaGreatBundleO
import Derived.Test.YtofmhfbbedalbaaGreatLat2


namespace Go.Proofs.YtofmhfbbedalbaaGreat
open Go.RowKit Go.Proofs.YtofmhfbbedalbaaGreat.Num
set_option linter.unusedVariables false
set_option linter.unusedSimpArgs false
set_option maxRecDepth 100000
end Go.Proofs.YtofmhfbbedalbaaGreat
