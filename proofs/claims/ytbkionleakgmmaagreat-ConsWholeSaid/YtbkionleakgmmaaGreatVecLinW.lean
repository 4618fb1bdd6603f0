
/-
  The walk of VecLinear: true.
-/
import Derived.Test.YtbkionleakgmmaaGreatBundleO
import Derived.Test.YtbkionleakgmmaaGreatLat2


namespace Go.Proofs.YtbkionleakgmmaaGreat
open Go.RowKit Go.Proofs.YtbkionleakgmmaaGreat.Num
set_option linter.unusedVariables false
set_option linter.unusedSimpArgs false
set_option maxRecDepth 100000

/-- The loop's list: what stands at 7, 6, .. -/
def Xs (ts : List Tm) (k : Nat) (l : List Rx) : Prop := l.length = k ∧ ∀ (j : Nat) (x : Rx), l[j]? = some x → x.r = gt ts (7 - (j : Int))
theorem Xs.push {ts : List Tm} {k : Nat} {l : List Rx} {z : Rx} (h : Xs ts k l) (hz : z.r = gt ts (7 - (k : Int))) : Xs ts (k + 1) (l ++ [z]) := by
  refine ⟨by simp [h.1], fun j x hj => ?_⟩
  by_cases hl : j < l.length
  · rw [List.getElem?_append_left hl] at hj
    exact h.2 j x hj
  · rw [List.getElem?_append_right (by omega)] at hj
    have hj2 := (List.getElem?_eq_some_iff.1 hj).1
    simp at hj2
    have e : j = l.length := by omega
    subst e
    simp at hj
    subst hj
    rw [hz, h.1]
def Fg (W : World) (B : Nat) (v : Value) (l : List Rx) (K : Nat) : Prop := Ow 42 er 3 W B v l ∧ ∀ x ∈ l, Rg W B x K
theorem Fg.step {W W' : World} {B : Nat} {v : Value} {l : List Rx} {K : Nat} (h : Fg W B v l K) (hb : Below W.heap.size W W') : Fg W' B v l K := ⟨h.1.step hb, fun x hx => (h.2 x hx).step hb⟩
theorem Fg.push {W W' : World} {B K : Nat} {v v' : Value} {os : List Rx} {y : Rx} (T : Fg W B v os K) (ho : Ow 42 er 3 W' B v' (os ++ [y])) (hg : W.grownBy W' v.ownBlock) (ry : Rg W B y K) : Fg W' B v' (os ++ [y]) K := by
  refine ⟨ho, fun x hx => ?_⟩
  rcases List.mem_append.1 hx with h | h
  · exact (T.2 x h).grownT hg (fun g e => T.1.ot3 g e)
  · simp at h
    subst h
    exact ry.grownT hg (fun g e => T.1.ot3 g e)
end Go.Proofs.YtbkionleakgmmaaGreat
