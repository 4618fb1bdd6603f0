
/-
 What ConsRounds' walk leans on: rounding's answers in one form.
-/
import Derived.Test.YtfnngcaalpknlaaGreatKxConsCombines
import Derived.Test.YtfnngcaalpknlaaGreatKref7
import Derived.Test.YtfnngcaalpknlaaGreatKjn


namespace Go.Proofs.YtfnngcaalpknlaaGreat
open Go.RowKit Go.Proofs.YtfnngcaalpknlaaGreat.Num
set_option linter.unusedVariables false
set_option linter.unusedSimpArgs false
set_option maxRecDepth 100000
def kz0 : Kx := ⟨0, (none, 0, 0), [], ⟨false, (none, 0, 0), (none, 0, 0), 0⟩⟩
end Go.Proofs.YtfnngcaalpknlaaGreat
