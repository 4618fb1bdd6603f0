
/-
 Stages of a drawn region: facts on fractions.
-/
import Derived.Test.YtnhlomphdighnaaGreatLatC
import Derived.Test.YtnhlomphdighnaaGreatBundleF
import Derived.Test.YtnhlomphdighnaaGreatBundleG


namespace Go.Proofs.YtnhlomphdighnaaGreat
open Go.RowKit Go.Proofs.YtnhlomphdighnaaGreat.Num
set_option linter.unusedVariables false
set_option maxRecDepth 100000
end Go.Proofs.YtnhlomphdighnaaGreat
