
/-
 The walk of VecLinear: true.
-/
import Derived.Test.YtnhlomphdighnaaGreatBundleO
import Derived.Test.YtnhlomphdighnaaGreatLat2


namespace Go.Proofs.YtnhlomphdighnaaGreat
open Go.RowKit Go.Proofs.YtnhlomphdighnaaGreat.Num
set_option linter.unusedVariables false
set_option linter.unusedSimpArgs false
set_option maxRecDepth 100000
end Go.Proofs.YtnhlomphdighnaaGreat
