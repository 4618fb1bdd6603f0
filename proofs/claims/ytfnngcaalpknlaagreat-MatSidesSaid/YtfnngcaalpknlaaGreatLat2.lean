
/-
 Stages of a drawn region: facts on fractions.
-/
import Derived.Test.YtfnngcaalpknlaaGreatLatC
import Derived.Test.YtfnngcaalpknlaaGreatBundleF
import Derived.Test.YtfnngcaalpknlaaGreatBundleG


namespace Go.Proofs.YtfnngcaalpknlaaGreat
open Go.RowKit Go.Proofs.YtfnngcaalpknlaaGreat.Num
set_option linter.unusedVariables false
set_option maxRecDepth 100000
end Go.Proofs.YtfnngcaalpknlaaGreat
