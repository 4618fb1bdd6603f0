
/-
 The document's own Axpy.
-/
import Derived.Test.YtepaamclfdadnaaBundleH


namespace Go.Proofs.Ytepaamclfdadnaa
open Go.RowKit Go.Proofs.Ytepaamclfdadnaa.Num
set_option linter.unusedVariables false
set_option linter.unusedSimpArgs false
set_option maxRecDepth 100000
end Go.Proofs.Ytepaamclfdadnaa
