
/-
  Lists of fractions by their words: copied, compared; whether one is greater than is looked at.
-/
import Derived.Test.YtpfeacdhplbblaaGreatVref5
import Derived.Test.YtpfeacdhplbblaaGreatVecLinW


namespace Go.Proofs.YtpfeacdhplbblaaGreat
open Go.RowKit Go.Proofs.YtpfeacdhplbblaaGreat.Num
set_option linter.unusedVariables false
set_option linter.unusedSimpArgs false
set_option maxRecDepth 100000
def Fl (W : World) (v : Value) (d : List Rx) (zs : List Zt) (L : Nat) : Prop := Lr er 3 W v d ∧ d.length = zs.length ∧ ∀ (i : Nat) x z, d[i]? = some x → zs[i]? = some z → Zf W x z L
def E3 (W : World) (A : Option Addr) (j : Nat) (x : Rx) : Prop := ∃ b off, A = some ⟨b, off, none⟩ ∧ W.cell? ⟨b, off + j, none⟩ = some (.bool x.s) ∧ W.cell? ⟨b, off + j + 1, none⟩ = some (sv x.u) ∧ W.cell? ⟨b, off + j + 2, none⟩ = some (sv x.t)
end Go.Proofs.YtpfeacdhplbblaaGreat
