
/-
  The document's own Axpy.
-/
import Derived.Test.YtbkionleakgmmaaGreatBundleH


namespace Go.Proofs.YtbkionleakgmmaaGreat
open Go.RowKit Go.Proofs.YtbkionleakgmmaaGreat.Num
set_option linter.unusedVariables false
set_option linter.unusedSimpArgs false
set_option maxRecDepth 100000

theorem Bq.off {W W' : World} {B g : Nat} {v : Value} {d : List Tx} {s : Bool} {u t : Value} (hq : Bq W g s u t) (hT : Ow 101 et 4 W B v d) (hg : W.grownBy W' v.ownBlock) : Bq W' g s u t := by
  refine (hg.block g hq.lt (fun he => ?_)).trans hq
  rcases hT.form with ⟨rfl, _⟩ | ⟨g', cap', cur, rfl, _, _, hh', _⟩
  · cases he
  · have e : g' = g := by simpa [Value.ownBlock] using he.symm
    subst e
    unfold Bq at hq
    rw [hq] at hh'
    injection hh' with hh'
    injection hh' with _ ht
    exact absurd ht (by decide)
/-- Terms that were there, and behind them ones of the call's own. -/
def Tj (w W : World) (B : Nat) (v : Value) (f g : List Tx) (M : Nat) : Prop := Ow 101 et 4 W B v (f ++ g) ∧ (∀ x ∈ f, Ra w (rx x.x) x.x.r M) ∧ ∀ x ∈ g, Rg W B x.x M
theorem Tj.step {w W W' : World} {B : Nat} {v : Value} {f g : List Tx} {M : Nat} (h : Tj w W B v f g M) (hb : Below W.heap.size W W') : Tj w W' B v f g M := ⟨h.1.step hb, h.2.1, fun x hx => (h.2.2 x hx).step hb⟩
theorem Tj.tv {w W : World} {B : Nat} {v : Value} {f g : List Tx} {M : Nat} (h : Tj w W B v f g M) (hb : Below w.heap.size w W) : Tv W v (f ++ g) M := ⟨h.1.rl et_len, fun x hx => by
  rcases List.mem_append.1 hx with hx | hx
  · exact (h.2.1 x hx).step hb
  · exact (h.2.2 x hx).ra⟩
theorem Tj.push {w W W' : World} {B : Nat} {v v' : Value} {f g : List Tx} {y : Tx} {M : Nat} (h : Tj w W B v f g M) (ho : Ow 101 et 4 W' B v' (f ++ g ++ [y])) (hg : W.grownBy W' v.ownBlock) (ry : Rg W B y.x M) : Tj w W' B v' f (g ++ [y]) M := by
  refine ⟨by rw [← List.append_assoc]; exact ho, h.2.1, fun x hx => ?_⟩
  rcases List.mem_append.1 hx with hx | hx
  · exact (h.2.2 x hx).grownT hg (fun g e => h.1.ot g e)
  · simp at hx
    subst hx
    exact ry.grownT hg (fun g e => h.1.ot g e)

end Go.Proofs.YtbkionleakgmmaaGreat
