
/-
 The document's own Axpy.
-/
import Derived.Test.YtofmhfbbedalbaaGreatBundleH


namespace Go.Proofs.YtofmhfbbedalbaaGreat
open Go.RowKit Go.Proofs.YtofmhfbbedalbaaGreat.Num
set_option linter.unusedVariables false
set_option linter.unusedSimpArgs false
set_option maxRecDepth 100000
end Go.Proofs.YtofmhfbbedalbaaGreat
