
/-
  The document's own answer for whole numbers: Cmp.
-/
import Derived.Test.YtpfeacdhplbblaaGreatBundleE

namespace Go.Proofs.YtpfeacdhplbblaaGreat
open Go.RowKit Go.Proofs.YtpfeacdhplbblaaGreat.Num
set_option linter.unusedVariables false
set_option maxRecDepth 100000
end Go.Proofs.YtpfeacdhplbblaaGreat
