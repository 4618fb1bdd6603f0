
/-
 Fractions: Neg: the result is the call's own.
-/
import Derived.Test.YtehdkdoaamlkdaaGreatRown2

namespace Go.Proofs.YtehdkdoaamlkdaaGreat
open Go.RowKit Go.Proofs.YtehdkdoaamlkdaaGreat.Num
set_option linter.unusedVariables false
set_option linter.unusedSimpArgs false
set_option maxRecDepth 100000
end Go.Proofs.YtehdkdoaamlkdaaGreat
