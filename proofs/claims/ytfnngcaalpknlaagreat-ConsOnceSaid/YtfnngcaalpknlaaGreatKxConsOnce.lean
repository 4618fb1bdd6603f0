/-
  What this law wants besides.
-/
import Derived.Test.YtfnngcaalpknlaaGreatBundleN
import Derived.Test.YtfnngcaalpknlaaGreatBundleP
import Derived.Test.YtfnngcaalpknlaaGreatFrameP


namespace Go.Proofs.YtfnngcaalpknlaaGreat.Num

theorem dt_congr {xs ys : List Tm} {n : Nat} {x : Int → Rat} (h : ∀ c, c < 0 ∨ (n : Int) ≤ c → x c = 0) (hg : ∀ c, gt xs c = gt ys c) : dt xs x = dt ys x := by
  rw [dt_sum xs n x h, dt_sum ys n x h]
  exact sm_congr (fun i _ => by rw [hg])

end Go.Proofs.YtfnngcaalpknlaaGreat.Num
namespace Go.Proofs.YtfnngcaalpknlaaGreat.Num
set_option linter.unusedVariables false

theorem Alk.dt {ts us : List Tm} (h : Alk ts us) {n : Nat} {x : Int → Rat} (hx : ∀ c, c < 0 ∨ (n : Int) ≤ c → x c = 0) : dt ts x = dt us x :=
  dt_congr hx (fun c => by unfold gt; split; exact h c (by assumption); rfl)
theorem twice_kpt {s : Int} (hs : IsS s) (a r : Rat) : Kpt s (a + a) (r + r) ↔ Kpt s a r := by
  unfold Kpt
  constructor
  · rintro (⟨h, k⟩ | ⟨h, k⟩ | ⟨h, k⟩)
    · exact .inl ⟨h, by grind⟩
    · exact .inr (.inl ⟨h, by grind⟩)
    · exact .inr (.inr ⟨h, by grind⟩)
  · rintro (⟨h, k⟩ | ⟨h, k⟩ | ⟨h, k⟩)
    · exact .inl ⟨h, by grind⟩
    · exact .inr (.inl ⟨h, by grind⟩)
    · exact .inr (.inr ⟨h, by grind⟩)
end Go.Proofs.YtfnngcaalpknlaaGreat.Num
namespace Go.Proofs.YtfnngcaalpknlaaGreat
open Go.RowKit Go.Proofs.YtfnngcaalpknlaaGreat.Num
set_option linter.unusedVariables false
set_option linter.unusedSimpArgs false
set_option maxRecDepth 100000

theorem Tc.tv {W : World} {v : Value} {d : List Tx} {L : Nat} (h : Tc W v d L) : Tv W v d L := ⟨h.1, fun x hx => (h.2 x hx).ra⟩
end Go.Proofs.YtfnngcaalpknlaaGreat
namespace Go.Proofs.YtfnngcaalpknlaaGreat
open Go.RowKit Go.Proofs.YtfnngcaalpknlaaGreat.Num
set_option linter.unusedVariables false
set_option linter.unusedSimpArgs false
set_option maxRecDepth 100000

theorem Kc.kv {W : World} {k : Kx} {L : Nat} (h : Kc W k L) : Kv W k L := ⟨h.1.tv, h.2.1.ra⟩
end Go.Proofs.YtfnngcaalpknlaaGreat
