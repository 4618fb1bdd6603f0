
/-
 Fractions: Neg: the result is the call's own.
-/
import Derived.Test.YtepaamclfdadnaaRown2

namespace Go.Proofs.Ytepaamclfdadnaa
open Go.RowKit Go.Proofs.Ytepaamclfdadnaa.Num
set_option linter.unusedVariables false
set_option linter.unusedSimpArgs false
set_option maxRecDepth 100000
end Go.Proofs.Ytepaamclfdadnaa
