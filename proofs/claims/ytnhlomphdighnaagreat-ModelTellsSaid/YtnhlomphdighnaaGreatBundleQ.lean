/-
  Shared texts, one behind the other: Kref2, Kref4, Kref6, Kref7.
-/
import Derived.Test.YtnhlomphdighnaaGreatBundleN
import Derived.Test.YtnhlomphdighnaaGreatBundleH
import Derived.Test.YtnhlomphdighnaaGreatKdrw
import Derived.Test.YtnhlomphdighnaaGreatBundleM
import Derived.Test.YtnhlomphdighnaaGreatBundleI

namespace Go.Proofs.YtnhlomphdighnaaGreat
open Go.RowKit Go.Proofs.YtnhlomphdighnaaGreat.Num
set_option linter.unusedVariables false
set_option linter.unusedSimpArgs false
set_option maxRecDepth 100000
theorem BRet.tr {P : Prop} {e : Ending} (h : BRet P e) (p : P) : e = .returned (.bool true) := by
 obtain ⟨b, rfl, hb⟩ := h
 rw [hb.2 p]
theorem BRet.fa {P : Prop} {e : Ending} (h : BRet P e) (p : ¬ P) : e = .returned (.bool false) := by
 obtain ⟨b, rfl, hb⟩ := h
 cases b
 ·rfl
 ·exact absurd (hb.1 rfl) p
theorem alloc_new_below (W : World) (o : Obj) : Below W.heap.size W (W.alloc o) := (Below.refl _ _).alloc (Nat.le_refl _) o

end Go.Proofs.YtnhlomphdighnaaGreat
