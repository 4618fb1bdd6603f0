/-
  Shared texts, one behind the other: Kmath, Ktv.
-/
import Derived.Test.YtpfeacdhplbblaaGreatTm
import Derived.Test.YtpfeacdhplbblaaGreatBundleH
import Derived.Test.YtpfeacdhplbblaaGreatVdot

namespace Go.Proofs.YtpfeacdhplbblaaGreat.Num
set_option linter.unusedVariables false
def Alk (ts us : List Tm) : Prop := ∀ c, 0 ≤ c → gsum ts c = gsum us c
theorem mul_le {q a b : Rat} (h : a ≤ b) (hq : 0 < q) : q * a ≤ q * b := Rat.mul_le_mul_of_nonneg_left h (Rat.le_of_lt hq)
end Go.Proofs.YtpfeacdhplbblaaGreat.Num


namespace Go.Proofs.YtpfeacdhplbblaaGreat
open Go.RowKit Go.Proofs.YtpfeacdhplbblaaGreat.Num
set_option linter.unusedVariables false
set_option linter.unusedSimpArgs false
set_option maxRecDepth 100000
structure Kx where
  s : Int
  v : Sl
  d : List Tx
  x : Rx
instance : Inhabited Kx := ⟨⟨0, (none, 0, 0), [], default⟩⟩
def ek (k : Kx) : List Value := [.int .i64 k.s, sv k.v, .bool k.x.s, sv k.x.u, sv k.x.t]
def BRet (P : Prop) (e : Ending) : Prop := ∃ b : Bool, e = .returned (.bool b) ∧ (b = true ↔ P)
end Go.Proofs.YtpfeacdhplbblaaGreat
