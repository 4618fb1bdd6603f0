
/-
  The document's own Axpy.
-/
import Derived.Test.YtpfeacdhplbblaaGreatBundleH


namespace Go.Proofs.YtpfeacdhplbblaaGreat
open Go.RowKit Go.Proofs.YtpfeacdhplbblaaGreat.Num
set_option linter.unusedVariables false
set_option linter.unusedSimpArgs false
set_option maxRecDepth 100000
end Go.Proofs.YtpfeacdhplbblaaGreat
