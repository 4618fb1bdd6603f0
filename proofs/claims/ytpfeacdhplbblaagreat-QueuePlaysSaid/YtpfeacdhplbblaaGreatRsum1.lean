
/-
  For RatSums: the document's Cmp, differences and negations in memory of the call's own.
-/
import Derived.Test.YtpfeacdhplbblaaGreatFl
import Derived.Test.YtpfeacdhplbblaaGreatRownN
import Derived.Test.YtpfeacdhplbblaaGreatZrefDC


namespace Go.Proofs.YtpfeacdhplbblaaGreat
open Go.RowKit Go.Proofs.YtpfeacdhplbblaaGreat.Num
set_option linter.unusedVariables false
set_option linter.unusedSimpArgs false
set_option maxRecDepth 100000
end Go.Proofs.YtpfeacdhplbblaaGreat
