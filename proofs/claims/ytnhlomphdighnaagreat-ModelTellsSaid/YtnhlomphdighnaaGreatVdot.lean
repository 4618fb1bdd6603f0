
/-
 The document's own Dot.
-/
import Derived.Test.YtnhlomphdighnaaGreatFl

namespace Go.Proofs.YtnhlomphdighnaaGreat
open Go.RowKit Go.Proofs.YtnhlomphdighnaaGreat.Num
set_option linter.unusedVariables false
set_option linter.unusedSimpArgs false
set_option maxRecDepth 100000
end Go.Proofs.YtnhlomphdighnaaGreat
