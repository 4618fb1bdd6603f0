
/-
  The examples of chapter 5: they hold.
-/
import Derived.Test.YtieicmcbdhaipaaGreatVec9

namespace Go.Proofs.YtieicmcbdhaipaaGreat
open Go.RowKit Go.Proofs.YtieicmcbdhaipaaGreat.Num
set_option linter.unusedVariables false
set_option linter.unusedSimpArgs false
set_option maxRecDepth 100000

theorem alloc_below (W : World) (o : Obj) : Below W.heap.size W (W.alloc o) := (Below.refl _ _).alloc (Nat.le_refl _) _
theorem lit1 {W : World} {x : Rx} {L : Nat} (c : Int) (h : Rc W (rx x) x.r L) : Tc (W.alloc (.cells #[.int .i64 c, .bool x.s, sv x.u, sv x.t] 63)) (.slice (some ⟨W.heap.size, 0, none⟩) 1 1) [⟨c, x⟩] L :=
  ⟨(Ow.lit (B := W.heap.size) et_len W 63 [⟨c, x⟩] _ rfl (Nat.le_refl _) (by simp [maxLen])).rl et_len, fun y hy => by simp at hy; subst hy; exact h.step (alloc_below _ _)⟩
theorem bq3 {W : World} {g : Nat} {s : Bool} {u t : Value} (h : Bq W g s u t) : W.cell? ⟨g, 0, none⟩ = some (.bool s) ∧ W.cell? ⟨g, 1, none⟩ = some u ∧ W.cell? ⟨g, 2, none⟩ = some t := ⟨h.all.1, h.all.2.1, h.all.2.2.1⟩

end Go.Proofs.YtieicmcbdhaipaaGreat
