
/-
 The document's own Dot.
-/
import Derived.Test.YtfnngcaalpknlaaGreatFl

namespace Go.Proofs.YtfnngcaalpknlaaGreat
open Go.RowKit Go.Proofs.YtfnngcaalpknlaaGreat.Num
set_option linter.unusedVariables false
set_option linter.unusedSimpArgs false
set_option maxRecDepth 100000
end Go.Proofs.YtfnngcaalpknlaaGreat
