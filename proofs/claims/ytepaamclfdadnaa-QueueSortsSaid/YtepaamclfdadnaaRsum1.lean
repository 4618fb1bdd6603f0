
/-
 For RatSums: the document's Cmp, differences and negations in memory of the call's own.
-/
import Derived.Test.YtepaamclfdadnaaFl
import Derived.Test.YtepaamclfdadnaaRownN
import Derived.Test.YtepaamclfdadnaaZrefDC


namespace Go.Proofs.Ytepaamclfdadnaa
open Go.RowKit Go.Proofs.Ytepaamclfdadnaa.Num
set_option linter.unusedVariables false
set_option linter.unusedSimpArgs false
set_option maxRecDepth 100000
end Go.Proofs.Ytepaamclfdadnaa
