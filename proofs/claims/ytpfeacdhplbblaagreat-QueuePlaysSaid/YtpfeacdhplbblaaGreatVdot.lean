
/-
  The document's own Dot.
-/
import Derived.Test.YtpfeacdhplbblaaGreatFl

namespace Go.Proofs.YtpfeacdhplbblaaGreat
open Go.RowKit Go.Proofs.YtpfeacdhplbblaaGreat.Num
set_option linter.unusedVariables false
set_option linter.unusedSimpArgs false
set_option maxRecDepth 100000
end Go.Proofs.YtpfeacdhplbblaaGreat
