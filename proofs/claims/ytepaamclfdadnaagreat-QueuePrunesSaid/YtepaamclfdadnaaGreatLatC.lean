
/-
 A region that draws its order and makes variables among its calls: its stages, for any number of variables of any kind.
-/
import Derived.Test.YtepaamclfdadnaaGreatBundleF
import Derived.Test.YtepaamclfdadnaaGreatBundleE


namespace Go.Proofs.YtepaamclfdadnaaGreat
open Go.RowKit Go.Proofs.YtepaamclfdadnaaGreat.Num
set_option linter.unusedVariables false
set_option maxRecDepth 100000
end Go.Proofs.YtepaamclfdadnaaGreat
