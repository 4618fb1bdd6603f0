
/-
  Stages of a drawn region: facts on fractions.
-/
import Derived.Test.YtpfeacdhplbblaaGreatLatC
import Derived.Test.YtpfeacdhplbblaaGreatBundleF
import Derived.Test.YtpfeacdhplbblaaGreatBundleG


namespace Go.Proofs.YtpfeacdhplbblaaGreat
open Go.RowKit Go.Proofs.YtpfeacdhplbblaaGreat.Num
set_option linter.unusedVariables false
set_option maxRecDepth 100000
end Go.Proofs.YtpfeacdhplbblaaGreat
