
/-
 Stages of a drawn region: facts on fractions.
-/
import Derived.Test.YtepaamclfdadnaaGreatLatC
import Derived.Test.YtepaamclfdadnaaGreatBundleF
import Derived.Test.YtepaamclfdadnaaGreatBundleG


namespace Go.Proofs.YtepaamclfdadnaaGreat
open Go.RowKit Go.Proofs.YtepaamclfdadnaaGreat.Num
set_option linter.unusedVariables false
set_option maxRecDepth 100000
end Go.Proofs.YtepaamclfdadnaaGreat
