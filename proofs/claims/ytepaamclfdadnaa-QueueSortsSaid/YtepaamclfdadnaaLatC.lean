
/-
 A region that draws its order and makes variables among its calls: its stages, for any number of variables of any kind.
-/
import Derived.Test.YtepaamclfdadnaaBundleF
import Derived.Test.YtepaamclfdadnaaBundleE


namespace Go.Proofs.Ytepaamclfdadnaa
open Go.RowKit Go.Proofs.Ytepaamclfdadnaa.Num
set_option linter.unusedVariables false
set_option maxRecDepth 100000
end Go.Proofs.Ytepaamclfdadnaa
