
/-
  Lists of fractions: whether two are one.
-/
import Derived.Test.YtieicmcbdhaipaaGreatBundleG
import Derived.Deep.RegionHeld3


namespace Go.Proofs.YtieicmcbdhaipaaGreat
open Go.RowKit Go.Proofs.YtieicmcbdhaipaaGreat.Num
set_option linter.unusedVariables false
set_option linter.unusedSimpArgs false
set_option maxRecDepth 100000

/-- The j-th of the fractions in a block. -/
def RsAt (W : World) (g j : Nat) (r : Rat) (L : Nat) : Prop := ∃ s u t, W.cell? ⟨g, j * 3, none⟩ = some (.bool s) ∧ W.cell? ⟨g, j * 3 + 1, none⟩ = some u ∧ W.cell? ⟨g, j * 3 + 2, none⟩ = some t ∧ Rc W (rv s u t) r L
theorem RsAt.step {W W' : World} {g j : Nat} {r : Rat} {L : Nat} (h : RsAt W g j r L) (hb : Below W.heap.size W W') : RsAt W' g j r L := by
  obtain ⟨s, u, t, h0, h1, h2, h3⟩ := h
  exact ⟨s, u, t, cell_keep h0 hb, cell_keep h1 hb, cell_keep h2 hb, h3.step hb⟩

end Go.Proofs.YtieicmcbdhaipaaGreat
