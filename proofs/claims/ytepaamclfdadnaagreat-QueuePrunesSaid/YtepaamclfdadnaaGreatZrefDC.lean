
/-
 The document's own answer for whole numbers: Cmp.
-/
import Derived.Test.YtepaamclfdadnaaGreatBundleE

namespace Go.Proofs.YtepaamclfdadnaaGreat
open Go.RowKit Go.Proofs.YtepaamclfdadnaaGreat.Num
set_option linter.unusedVariables false
set_option maxRecDepth 100000
end Go.Proofs.YtepaamclfdadnaaGreat
