
/-
  Lists of terms: what stands at a place, their one form, products with lists. Plain mathematics: no Go here.
-/
import Derived.Test.YtpfeacdhplbblaaGreatBundleA

namespace Go.Proofs.YtpfeacdhplbblaaGreat.Num
abbrev Tm := Int × Rat
def gsum : List Tm → Int → Rat
  | [], _ => 0
  | t :: ts, c => (if t.1 = c then t.2 else 0) + gsum ts c
def dt : List Tm → (Int → Rat) → Rat
  | [], _ => 0
  | t :: ts, x => t.2 * x t.1 + dt ts x
def sm : Nat → (Nat → Rat) → Rat
  | 0, _ => 0
  | n + 1, f => sm n f + f n
def Sz (B : Nat) (r : Rat) (L : Nat) : Prop := r.num.natAbs < B ^ L ∧ r.den < B ^ L
theorem sz_base {B C k : Nat} (h : B ≤ C ^ k) {r : Rat} {L : Nat} (hr : Sz B r L) : Sz C r (k * L) := by
  have e : B ^ L ≤ C ^ (k * L) := by rw [Nat.pow_mul]; exact Nat.pow_le_pow_left h L
  exact ⟨Nat.lt_of_lt_of_le hr.1 e, Nat.lt_of_lt_of_le hr.2 e⟩
end Go.Proofs.YtpfeacdhplbblaaGreat.Num
