
/-
 Stages of a drawn region: facts on fractions.
-/
import Derived.Test.YtofmhfbbedalbaaGreatLatC
import Derived.Test.YtofmhfbbedalbaaGreatBundleF
import Derived.Test.YtofmhfbbedalbaaGreatBundleG


namespace Go.Proofs.YtofmhfbbedalbaaGreat
open Go.RowKit Go.Proofs.YtofmhfbbedalbaaGreat.Num
set_option linter.unusedVariables false
set_option maxRecDepth 100000
end Go.Proofs.YtofmhfbbedalbaaGreat
