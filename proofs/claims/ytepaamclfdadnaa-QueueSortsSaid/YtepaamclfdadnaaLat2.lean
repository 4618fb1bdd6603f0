
/-
 Stages of a drawn region: facts on fractions.
-/
import Derived.Test.YtepaamclfdadnaaLatC
import Derived.Test.YtepaamclfdadnaaBundleF
import Derived.Test.YtepaamclfdadnaaBundleG


namespace Go.Proofs.Ytepaamclfdadnaa
open Go.RowKit Go.Proofs.Ytepaamclfdadnaa.Num
set_option linter.unusedVariables false
set_option maxRecDepth 100000
end Go.Proofs.Ytepaamclfdadnaa
