
/-
 The document's own Dot.
-/
import Derived.Test.YtepaamclfdadnaaGreatFl

namespace Go.Proofs.YtepaamclfdadnaaGreat
open Go.RowKit Go.Proofs.YtepaamclfdadnaaGreat.Num
set_option linter.unusedVariables false
set_option linter.unusedSimpArgs false
set_option maxRecDepth 100000
end Go.Proofs.YtepaamclfdadnaaGreat
