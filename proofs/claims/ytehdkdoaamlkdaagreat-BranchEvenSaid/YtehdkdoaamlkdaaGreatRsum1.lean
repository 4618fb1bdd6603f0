
/-
 For RatSums: the document's Cmp, differences and negations in memory of the call's own.
-/
import Derived.Test.YtehdkdoaamlkdaaGreatFl
import Derived.Test.YtehdkdoaamlkdaaGreatRownN
import Derived.Test.YtehdkdoaamlkdaaGreatZrefDC


namespace Go.Proofs.YtehdkdoaamlkdaaGreat
open Go.RowKit Go.Proofs.YtehdkdoaamlkdaaGreat.Num
set_option linter.unusedVariables false
set_option linter.unusedSimpArgs false
set_option maxRecDepth 100000
theorem rqsub_f {w : World} {a b : Value} {r1 r2 : Rat} {L : Nat} (ha : Rf w a r1 L) (hb : Rf w b r2 L) (h1 : 1 ≤ L) (hL : L ≤ 4000000000) :
  Calls Tryz.prog 13 #[a, b] w (RxRet w (r1 - r2) (L + L + 1)) :=
 (rqsub_any ha hb h1 (by omega)).mono fun e w' h => by
  obtain ⟨v, e1, h2, h3⟩ := h
  exact RfRet.to ⟨v, e1, h2, h3⟩ h2.sz
end Go.Proofs.YtehdkdoaamlkdaaGreat
