
/-
 For RatSums: the document's Cmp, differences and negations in memory of the call's own.
-/
import Derived.Test.YtepaamclfdadnaaGreatFl
import Derived.Test.YtepaamclfdadnaaGreatRownN
import Derived.Test.YtepaamclfdadnaaGreatZrefDC


namespace Go.Proofs.YtepaamclfdadnaaGreat
open Go.RowKit Go.Proofs.YtepaamclfdadnaaGreat.Num
set_option linter.unusedVariables false
set_option linter.unusedSimpArgs false
set_option maxRecDepth 100000
end Go.Proofs.YtepaamclfdadnaaGreat
