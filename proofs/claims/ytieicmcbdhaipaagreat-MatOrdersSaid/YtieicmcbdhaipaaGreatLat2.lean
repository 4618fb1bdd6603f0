
/-
  Stages of a drawn region: facts on fractions.
-/
import Derived.Test.YtieicmcbdhaipaaGreatLatC
import Derived.Test.YtieicmcbdhaipaaGreatBundleF
import Derived.Test.YtieicmcbdhaipaaGreatBundleG


namespace Go.Proofs.YtieicmcbdhaipaaGreat
open Go.RowKit Go.Proofs.YtieicmcbdhaipaaGreat.Num
set_option linter.unusedVariables false
set_option maxRecDepth 100000

theorem Firm2.ra (v : Value) (r : Rat) (L : Nat) : Firm2 (fun W => Ra W v r L) := ⟨fun _ _ h hb => h.step hb, fun _ _ j u ⟨s, x, y, a, b, e, h, k, hr⟩ hn => ⟨s, x, y, a, b, e, h.bset hn j u, k.bset hn j u, hr⟩⟩
end Go.Proofs.YtieicmcbdhaipaaGreat
