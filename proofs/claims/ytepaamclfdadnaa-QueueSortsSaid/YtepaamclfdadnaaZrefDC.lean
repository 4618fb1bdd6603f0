
/-
 The document's own answer for whole numbers: Cmp.
-/
import Derived.Test.YtepaamclfdadnaaBundleE

namespace Go.Proofs.Ytepaamclfdadnaa
open Go.RowKit Go.Proofs.Ytepaamclfdadnaa.Num
set_option linter.unusedVariables false
set_option maxRecDepth 100000
end Go.Proofs.Ytepaamclfdadnaa
