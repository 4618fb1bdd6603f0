
/-
  Fractions: Neg: the result is the call's own.
-/
import Derived.Test.YtpfeacdhplbblaaGreatRown2

namespace Go.Proofs.YtpfeacdhplbblaaGreat
open Go.RowKit Go.Proofs.YtpfeacdhplbblaaGreat.Num
set_option linter.unusedVariables false
set_option linter.unusedSimpArgs false
set_option maxRecDepth 100000
end Go.Proofs.YtpfeacdhplbblaaGreat
