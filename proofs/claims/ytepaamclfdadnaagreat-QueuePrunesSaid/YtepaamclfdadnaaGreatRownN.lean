
/-
 Fractions: Neg: the result is the call's own.
-/
import Derived.Test.YtepaamclfdadnaaGreatRown2

namespace Go.Proofs.YtepaamclfdadnaaGreat
open Go.RowKit Go.Proofs.YtepaamclfdadnaaGreat.Num
set_option linter.unusedVariables false
set_option linter.unusedSimpArgs false
set_option maxRecDepth 100000
end Go.Proofs.YtepaamclfdadnaaGreat
