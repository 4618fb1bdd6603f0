/-
  Fractions: what the laws reckon with.
-/
import Derived.Test.YtajjpepjbflojaaGreatDoorBundleG

namespace Go.Proofs.YtajjpepjbflojaaGreatDoor
open Go.RowKit Go.Proofs.YtajjpepjbflojaaGreatDoor.Num
set_option linter.unusedVariables false
set_option maxRecDepth 100000

theorem flo (r : Rat) : (r.floor : Rat) ≤ r ∧ r < (r.floor : Rat) + 1 := by
  constructor
  · exact Rat.le_floor_iff.1 (Int.le_refl _)
  · have h : r.floor < r.floor + 1 := by omega
    have h2 := Rat.floor_lt_iff.1 h
    rw [Rat.intCast_add] at h2
    exact h2
theorem flo_eq {r : Rat} {z : Int} (h1 : (z : Rat) ≤ r) (h2 : r < (z : Rat) + 1) : r.floor = z := by
  have a : z ≤ r.floor := Rat.le_floor_iff.2 h1
  have b : r.floor < z + 1 := Rat.floor_lt_iff.2 (by rw [Rat.intCast_add]; exact h2)
  omega
theorem ceil_whole {r : Rat} (h : (r.floor : Rat) = r) : -((-r).floor) = r.floor := by
  have e : (-r).floor = -r.floor := flo_eq (by rw [Rat.intCast_neg, h]; grind) (by rw [Rat.intCast_neg, h]; grind)
  omega
theorem ceil_not {r : Rat} (h : (r.floor : Rat) ≠ r) : -((-r).floor) = r.floor + 1 := by
  obtain ⟨h1, h2⟩ := flo r
  have e : (-r).floor = -r.floor - 1 := flo_eq (by rw [Rat.intCast_sub, Rat.intCast_neg]; grind) (by rw [Rat.intCast_sub, Rat.intCast_neg]; grind)
  omega
theorem frac_pos {r : Rat} (h : (r.floor : Rat) ≠ r) : 0 < r - (r.floor : Rat) := by
  obtain ⟨h1, h2⟩ := flo r
  grind
theorem cmpR_lt {a b : Rat} (h : a < b) : cmpR a b = -1 := by unfold cmpR; rw [if_pos h]
theorem cmpR_gt {a b : Rat} (h : b < a) : cmpR a b = 1 := by unfold cmpR; rw [if_neg (by grind), if_pos h]
theorem cmpR_same (a : Rat) : cmpR a a = 0 := by unfold cmpR; rw [if_neg (by grind), if_neg (by grind)]
theorem cmpR_add (a b c : Rat) : cmpR (a + c) (b + c) = cmpR a b := by unfold cmpR; split <;> split <;> (try split) <;> (try split) <;> first | rfl | (exfalso; grind)
theorem cmpR_turn (a b : Rat) : cmpR b a = -cmpR a b := by unfold cmpR; split <;> split <;> (try split) <;> (try split) <;> first | rfl | (exfalso; grind)
theorem cmpR_range (a b : Rat) : -1 ≤ cmpR a b ∧ cmpR a b ≤ 1 := by unfold cmpR; split <;> (try split) <;> omega
theorem cmpR_le {a b : Rat} : cmpR a b ≤ 0 ↔ a ≤ b := by unfold cmpR; split <;> (try split) <;> constructor <;> intro h <;> first | omega | grind
theorem half_eq : ((1 : Int) : Rat) / ((2 : Int) : Rat) = 1 / 2 := by decide +kernel
theorem mean_lo (a b : Rat) : cmpR a (((1 : Int) : Rat) / ((2 : Int) : Rat) * (a + b)) = cmpR a b := by rw [half_eq]; unfold cmpR; split <;> split <;> (try split) <;> (try split) <;> first | rfl | (exfalso; grind)
theorem mean_hi (a b : Rat) : cmpR (((1 : Int) : Rat) / ((2 : Int) : Rat) * (a + b)) b = cmpR a b := by rw [half_eq]; unfold cmpR; split <;> split <;> (try split) <;> (try split) <;> first | rfl | (exfalso; grind)
theorem Ra.more {w : World} {v : Value} {r : Rat} {L M : Nat} (h : Ra w v r L) (hL : L ≤ M) : Ra w v r M := by
  obtain ⟨s, u, t, x, y, e, ⟨A, n, c, xs, e1, a1, a2, a3, a4, a5, a6⟩, ⟨D, m, d, ys, e2, b1, b2, b3, b4, b5, b6⟩, hr⟩ := h
  exact ⟨s, u, t, x, y, e, ⟨A, n, c, xs, e1, a1, a2, a3, a4, a5, Nat.le_trans a6 hL⟩, ⟨D, m, d, ys, e2, b1, b2, b3, b4, b5, Nat.le_trans b6 hL⟩, hr⟩
theorem form_q {w : World} {a : Value} {r : Rat} {L : Nat} (ha : Ra w a r L) (h1 : 1 ≤ L) (hL : L ≤ 17592186044000) : Calls Tryz.prog 18 #[a] w (RRet w r L) := by
  obtain ⟨s, A, n, c, D, m, d, x, y, rfl, hu, ht, rfl⟩ := ha.parts
  exact form_r hu ht h1 hL
end Go.Proofs.YtajjpepjbflojaaGreatDoor
