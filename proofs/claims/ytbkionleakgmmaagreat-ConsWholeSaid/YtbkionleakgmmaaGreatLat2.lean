/-
  Stages of a drawn region: facts on fractions.
-/
import Derived.Test.YtbkionleakgmmaaGreatLatC
import Derived.Test.YtbkionleakgmmaaGreatBundleF
import Derived.Test.YtbkionleakgmmaaGreatBundleG


namespace Go.Proofs.YtbkionleakgmmaaGreat
open Go.RowKit Go.Proofs.YtbkionleakgmmaaGreat.Num
set_option linter.unusedVariables false
set_option maxRecDepth 100000

theorem Firm2.rc (v : Value) (r : Rat) (L : Nat) : Firm2 (fun W => Rc W v r L) := ⟨fun _ _ h hb => h.step hb, fun _ _ j u ⟨x, y, e, h, k⟩ hn => ⟨x, y, e, h.bset hn j u, k.bset hn j u⟩⟩
theorem Firm2.rf (v : Value) (r : Rat) (L : Nat) : Firm2 (fun W => Rf W v r L) := ⟨fun _ _ h hb => h.step hb, fun _ _ j u ⟨x, y, e, h, k⟩ hn => ⟨x, y, e, h.bset hn j u, k.bset hn j u⟩⟩
theorem Firm2.ra (v : Value) (r : Rat) (L : Nat) : Firm2 (fun W => Ra W v r L) := ⟨fun _ _ h hb => h.step hb, fun _ _ j u ⟨s, x, y, a, b, e, h, k, hr⟩ hn => ⟨s, x, y, a, b, e, h.bset hn j u, k.bset hn j u, hr⟩⟩
end Go.Proofs.YtbkionleakgmmaaGreat
