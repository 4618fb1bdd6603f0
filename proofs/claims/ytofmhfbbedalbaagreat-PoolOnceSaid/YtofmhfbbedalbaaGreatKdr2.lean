
/-
 Regions that draw their order, by hand: many operations passed over at once.
-/
import Derived.Test.YtofmhfbbedalbaaGreatKxPoolOnce
import Derived.Test.YtofmhfbbedalbaaGreatKdrw

namespace Go.Proofs.YtofmhfbbedalbaaGreat
open Go.RowKit
set_option linter.unusedVariables false
section
variable {P : Program} {md : Region.Mode} {ops : Array Oper} {Q : Exit → Act → World → Prop} {S : World → Prop}
def shOk (md : Region.Mode) (ops : Array Oper) : List (Nat × Option Tmp) → Array Bool → Act → Bool
 | [], _, _ => true
 | (i, d) :: is, listed, a => match ops[i]? with
  | none => false
  | some oi => oi.dst == d && Region.free md ops listed i && (Region.ready md ops listed).contains i && !(Region.wanted oi (yielded ops a.tmps)) && shOk md ops is (listed.setIfInBounds i true) (a.put d undef)
def shL : List (Nat × Option Tmp) → Array Bool → Array Bool
 | [], l => l
 | (i, _) :: is, l => shL is (l.setIfInBounds i true)
def shA : List (Nat × Option Tmp) → Act → Act
 | [], a => a
 | (_, d) :: is, a => shA is (a.put d undef)
theorem shl_go (hs : Region.noSelect ops = true) (hQ : ∀ d c a w, Q (.panic c) (a.put d undef) w → Q (.panic c) a w) {w : World} (hS : S w) : ∀ (is : List (Nat × Option Tmp)) (fuel : Nat) (listed : Array Bool) (a : Act), shOk md ops is listed a = true → wpAnyH P md ops Q S fuel (shL is listed) (shA is a) w → wpAnyH P md ops Q S (fuel + is.length) listed a w
 | [], fuel, listed, a, _, h => h
 | (i, d) :: is, fuel, listed, a, hk, h => by
  unfold shOk at hk
  cases hi : ops[i]? with
  | none => rw [hi] at hk; cases hk
  | some oi =>
   rw [hi] at hk
   simp only [Bool.and_eq_true, beq_iff_eq, Bool.not_eq_true'] at hk
   obtain ⟨⟨⟨⟨h1, h2⟩, h3⟩, h4⟩, h5⟩ := hk
   subst h1
   exact wpAnyH_take (fuel := fuel + is.length) hi hs h2 h3 (hQ _) (.inr ⟨h4, rfl⟩) hS (shl_go hs hQ hS is fuel _ _ h5 h)
theorem shl (is : List (Nat × Option Tmp)) {F : Nat} (fuel : Nat) {listed : Array Bool} {a : Act} {w : World} (hS : S w) (h : wpAnyH P md ops Q S fuel (shL is listed) (shA is a) w)
  (hF : F = fuel + is.length := by rfl) (hk : shOk md ops is listed a = true := by kernel_rfl) (hs : Region.noSelect ops = true := by kernel_rfl) (hQ : ∀ d c a w, Q (.panic c) (a.put d undef) w → Q (.panic c) a w := by intro d _ _ _ h; cases d <;> exact h) :
  wpAnyH P md ops Q S F listed a w := by
 subst hF
 exact shl_go hs hQ hS is fuel listed a hk h
end
end Go.Proofs.YtofmhfbbedalbaaGreat
