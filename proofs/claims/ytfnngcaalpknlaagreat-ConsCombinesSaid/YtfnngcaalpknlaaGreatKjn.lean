
/-
 Long lists of elements of one byte, appended.
-/
import Derived.Test.YtfnngcaalpknlaaGreatKxConsCombines
import Derived.Test.YtfnngcaalpknlaaGreatEl

namespace Go.Proofs.YtfnngcaalpknlaaGreat
open Go.RowKit Go.Proofs.YtfnngcaalpknlaaGreat.Num
set_option linter.unusedVariables false
set_option linter.unusedSimpArgs false
end Go.Proofs.YtfnngcaalpknlaaGreat
