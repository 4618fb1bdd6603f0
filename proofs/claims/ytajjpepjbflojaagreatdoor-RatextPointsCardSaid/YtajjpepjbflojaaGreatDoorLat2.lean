/-
  Stages of a drawn region: facts on fractions.
-/
import Derived.Test.YtajjpepjbflojaaGreatDoorLatC
import Derived.Test.YtajjpepjbflojaaGreatDoorBundleF
import Derived.Test.YtajjpepjbflojaaGreatDoorBundleG


namespace Go.Proofs.YtajjpepjbflojaaGreatDoor
open Go.RowKit Go.Proofs.YtajjpepjbflojaaGreatDoor.Num
set_option linter.unusedVariables false
set_option maxRecDepth 100000

theorem Firm2.rc (v : Value) (r : Rat) (L : Nat) : Firm2 (fun W => Rc W v r L) := ⟨fun _ _ h hb => h.step hb, fun _ _ j u ⟨x, y, e, h, k⟩ hn => ⟨x, y, e, h.bset hn j u, k.bset hn j u⟩⟩
theorem Firm2.rf (v : Value) (r : Rat) (L : Nat) : Firm2 (fun W => Rf W v r L) := ⟨fun _ _ h hb => h.step hb, fun _ _ j u ⟨x, y, e, h, k⟩ hn => ⟨x, y, e, h.bset hn j u, k.bset hn j u⟩⟩
theorem Firm2.ra (v : Value) (r : Rat) (L : Nat) : Firm2 (fun W => Ra W v r L) := ⟨fun _ _ h hb => h.step hb, fun _ _ j u ⟨s, x, y, a, b, e, h, k, hr⟩ hn => ⟨s, x, y, a, b, e, h.bset hn j u, k.bset hn j u, hr⟩⟩
end Go.Proofs.YtajjpepjbflojaaGreatDoor
