/-
  Division of two halves by two halves: the guess, and that what is left of it is the digit. Plain mathematics.
-/
import Derived.Test.YtkonakjchimniaaDoorNum
namespace Go.Proofs.YtkonakjchimniaaDoor.Num

section
variable {b Y y1 y0 u z q r : Nat}
theorem est_init (_hb : 0 < b) (hY : Y = y1 * b + y0) (hy0 : y0 < b) (hy1 : b ≤ 2 * y1) (hu : u < Y) (hz : z < b) :
    (u * b + z) / Y ≤ u / y1 ∧ u / y1 ≤ b + 1 := by
  have hp : 0 < y1 := by omega
  constructor
  · rw [Nat.le_div_iff_mul_le hp]
    have h1 : (u * b + z) / Y * Y ≤ u * b + z := Nat.div_mul_le_self _ _
    generalize (u * b + z) / Y = t at *
    rw [hY, Nat.mul_add, ← Nat.mul_assoc] at h1
    have h2 : t * y1 * b < (u + 1) * b := by rw [Nat.add_mul]; omega
    have := Nat.lt_of_mul_lt_mul_right h2
    omega
  · have h1 : u < (b + 2) * y1 := by rw [Nat.add_mul, Nat.mul_comm b y1]; omega
    have := (Nat.div_lt_iff_lt_mul hp).2 h1
    omega
theorem est_more (hY : Y = y1 * b + y0) (hu : u < Y) (hz : z < b) (e : u = q * y1 + r) (h : b ≤ q ∨ b * r + z < q * y0) : u * b + z < q * Y := by
  rcases h with h | h
  · have h1 : b * Y ≤ q * Y := Nat.mul_le_mul_right _ h
    have h2 : b * (u + 1) ≤ b * Y := Nat.mul_le_mul_left _ hu
    rw [Nat.mul_add, Nat.mul_comm b u] at h2
    omega
  · rw [hY, Nat.mul_add, ← Nat.mul_assoc, e, Nat.add_mul, Nat.mul_comm r b]
    omega
theorem est_down (hY : Y = y1 * b + y0) (hu : u < Y) (hz : z < b) (e : u = (q + 1) * y1 + r) (h : b ≤ q + 1 ∨ b * r + z < (q + 1) * y0) : (u * b + z) / Y ≤ q ∧ u = q * y1 + (r + y1) := by
  have h1 := est_more hY hu hz e h
  have hp : 0 < Y := by omega
  have h2 := (Nat.div_lt_iff_lt_mul hp).2 h1
  refine ⟨by omega, ?_⟩
  rw [Nat.add_mul] at e
  omega
theorem est_stop (hY : Y = y1 * b + y0) (hu : u < Y) (e : u = q * y1 + r) (hq : (u * b + z) / Y ≤ q) (h : q * y0 ≤ b * r + z) : q = (u * b + z) / Y := by
  have hp : 0 < Y := by omega
  have h1 : q ≤ (u * b + z) / Y := by
    rw [Nat.le_div_iff_mul_le hp, hY, Nat.mul_add, ← Nat.mul_assoc, e, Nat.add_mul, Nat.mul_comm r b]
    omega
  omega
theorem est_break (hy0 : y0 < b) (hq : q ≤ b) (hr : b ≤ r) : q * y0 ≤ b * r + z := by
  have h1 : q * y0 ≤ b * y0 := Nat.mul_le_mul_right _ hq
  have h2 : b * y0 ≤ b * r := Nat.mul_le_mul_left _ (by omega)
  omega
theorem est_lt (hu : u < Y) (hz : z < b) : (u * b + z) / Y < b := by
  have hp : 0 < Y := by omega
  rw [Nat.div_lt_iff_lt_mul hp]
  have h2 : b * (u + 1) ≤ b * Y := Nat.mul_le_mul_left _ hu
  rw [Nat.mul_add, Nat.mul_comm b u] at h2
  omega
end

/-- Two digits of the quotient, one behind the other. -/
theorem two_digits {b Y u z1 z0 q1 u2 q0 u3 : Nat} (hY : 0 < Y) (e1 : u * b + z1 = q1 * Y + u2) (e0 : u2 * b + z0 = q0 * Y + u3) (h3 : u3 < Y) :
    (u * (b * b) + (z1 * b + z0)) / Y = q1 * b + q0 ∧ (u * (b * b) + (z1 * b + z0)) % Y = u3 := by
  have h : u * (b * b) + (z1 * b + z0) = u3 + Y * (q1 * b + q0) := by
    have a1 : (u * b + z1) * b = (q1 * Y + u2) * b := by rw [e1]
    rw [Nat.add_mul, Nat.add_mul, Nat.mul_assoc] at a1
    have a2 : Y * (q1 * b + q0) = q1 * Y * b + q0 * Y := by
      rw [Nat.mul_add, Nat.mul_comm Y q0, ← Nat.mul_assoc, Nat.mul_comm Y q1]
    omega
  rw [h]
  constructor
  · rw [Nat.add_mul_div_left _ _ hY, Nat.div_eq_of_lt h3, Nat.zero_add]
  · rw [Nat.add_mul_mod_self_left, Nat.mod_eq_of_lt h3]
end Go.Proofs.YtkonakjchimniaaDoor.Num
