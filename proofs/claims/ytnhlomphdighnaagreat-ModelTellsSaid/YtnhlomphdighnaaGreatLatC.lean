
/-
 A region that draws its order and makes variables among its calls: its stages, for any number of variables of any kind.
-/
import Derived.Test.YtnhlomphdighnaaGreatBundleF
import Derived.Test.YtnhlomphdighnaaGreatBundleE


namespace Go.Proofs.YtnhlomphdighnaaGreat
open Go.RowKit Go.Proofs.YtnhlomphdighnaaGreat.Num
set_option linter.unusedVariables false
set_option maxRecDepth 100000
end Go.Proofs.YtnhlomphdighnaaGreat
