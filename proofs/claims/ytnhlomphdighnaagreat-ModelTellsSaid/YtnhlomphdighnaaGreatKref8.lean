
/-
 Lists of constraints by their words: copied, compared.
-/
import Derived.Test.YtnhlomphdighnaaGreatBundleQ
import Derived.Test.YtnhlomphdighnaaGreatBundleN


namespace Go.Proofs.YtnhlomphdighnaaGreat
open Go.RowKit Go.Proofs.YtnhlomphdighnaaGreat.Num
set_option linter.unusedVariables false
set_option linter.unusedSimpArgs false
set_option maxRecDepth 100000
theorem info_kc : (Tryz.prog.info? 46).map (fun i => (i.zero, i.size, i.bytes)) = some (some (.agg #[.int .i64 0, .slice none 0 0, .bool false, .slice none 0 0, .slice none 0 0]), 5, 88) := by kernel_rfl
theorem ow_tk {α β : Type} {enc : α → List Value} {enc' : β → List Value} {k k' B B' : Nat} {T T' : TypeId} {W : World} {v v' : Value} {d : List α} {d' : List β} (h1 : Ow T enc k W B v d) (h2 : Ow T' enc' k' W B' v' d') (hne : T ≠ T') : v.ownBlock = none ∨ v.ownBlock ≠ v'.ownBlock := by
 rcases h1.form with ⟨rfl, _⟩ | ⟨g, cap, cur, rfl, _, _, hh, _⟩
 ·exact .inl rfl
 ·rcases h2.form with ⟨rfl, _⟩ | ⟨g', cap', cur', rfl, _, _, hh', _⟩
  ·exact .inr (by simp [Value.ownBlock])
  ·refine .inr (fun e => ?_)
   have e : g = g' := by simpa [Value.ownBlock] using e
   subst e
   rw [hh] at hh'
   injection hh' with hh'
   injection hh' with _ e2 _
   exact hne e2
theorem Ow.otK {W : World} {B : Nat} {v : Value} {d : List Kx} (ho : Ow 46 ek 5 W B v d) : ∀ g, v.ownBlock = some g → Ot W g := by
 intro g e
 rcases ho.form with ⟨rfl, _⟩ | ⟨g', cap, cur, rfl, hB, hlt, hh, r⟩
 ·cases e
 ·have e : g' = g := by simpa [Value.ownBlock] using e
  subst e
  exact ⟨cur, _, _, hh, by decide⟩
end Go.Proofs.YtnhlomphdighnaaGreat
