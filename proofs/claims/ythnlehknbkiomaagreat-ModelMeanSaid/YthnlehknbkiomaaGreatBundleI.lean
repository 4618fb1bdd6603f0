/-
  Shared texts, one behind the other: Vref6.
-/
import Derived.Test.YthnlehknbkiomaaGreatVref5

namespace Go.Proofs.YthnlehknbkiomaaGreat
open Go.RowKit Go.Proofs.YthnlehknbkiomaaGreat.Num
set_option linter.unusedVariables false
set_option linter.unusedSimpArgs false
set_option maxRecDepth 100000

end Go.Proofs.YthnlehknbkiomaaGreat
