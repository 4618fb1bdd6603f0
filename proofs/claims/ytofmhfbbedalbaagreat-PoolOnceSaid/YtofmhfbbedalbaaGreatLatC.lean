
/-
 A region that draws its order and makes variables among its calls: its stages, for any number of variables of any kind.
-/
import Derived.Test.YtofmhfbbedalbaaGreatBundleF
import Derived.Test.YtofmhfbbedalbaaGreatBundleE


namespace Go.Proofs.YtofmhfbbedalbaaGreat
open Go.RowKit Go.Proofs.YtofmhfbbedalbaaGreat.Num
set_option linter.unusedVariables false
set_option maxRecDepth 100000
end Go.Proofs.YtofmhfbbedalbaaGreat
