
/-
 The document's own Axpy.
-/
import Derived.Test.YtepaamclfdadnaaGreatBundleH


namespace Go.Proofs.YtepaamclfdadnaaGreat
open Go.RowKit Go.Proofs.YtepaamclfdadnaaGreat.Num
set_option linter.unusedVariables false
set_option linter.unusedSimpArgs false
set_option maxRecDepth 100000
end Go.Proofs.YtepaamclfdadnaaGreat
