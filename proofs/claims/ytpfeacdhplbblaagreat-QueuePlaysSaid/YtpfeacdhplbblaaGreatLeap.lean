
/-
  Steps of Euclid's taken at once, from the topmost bits alone (Lehmer's way): the numbers of it, with no Go.
-/
import Derived.Test.YtpfeacdhplbblaaGreatBundleA

namespace Go.Proofs.YtpfeacdhplbblaaGreat
open Go.RowKit Go.Proofs.YtpfeacdhplbblaaGreat.Num
set_option linter.unusedVariables false
set_option maxRecDepth 100000
def LInv (U V x0 y0 : Nat) (odd : Bool) (p0 p1 q0 q1 x y : Nat) : Prop :=
  ∃ A B s : Int, s = (if odd then -1 else 1) ∧ A = s * ((p0 : Int) * U - p1 * V) ∧ B = s * ((q1 : Int) * V - q0 * U) ∧
    (x : Int) = s * ((p0 : Int) * x0 - p1 * y0) ∧ (y : Int) = s * ((q1 : Int) * y0 - q0 * x0) ∧ Int.gcd A B = Nat.gcd U V ∧
    (U : Int) = q1 * A + p1 * B ∧ (V : Int) = q0 * A + p0 * B ∧ x0 = q1 * x + p1 * y ∧ y0 = q0 * x + p0 * y ∧ y ≤ x ∧
    ((p0 = 1 ∧ p1 = 0 ∧ q0 = 0 ∧ q1 = 1) ∨ (1 ≤ p1 ∧ 1 ≤ q0 ∧ q0 ≤ q1 ∧ p0 ≤ p1 ∧ q1 ≤ y ∧ p1 + q1 + y ≤ x))
theorem LInv.start (U V x0 y0 : Nat) (h : y0 ≤ x0) : LInv U V x0 y0 false 1 0 0 1 x0 y0 :=
  ⟨U, V, 1, rfl, by simp, by simp, by simp, by simp, rfl, by simp, by simp, by simp, by simp, h, .inl ⟨rfl, rfl, rfl, rfl⟩⟩
theorem gcd_turn (A B t : Int) : Int.gcd B (A - t * B) = Int.gcd A B := by
  rw [Int.gcd_comm A B]
  have h := Int.gcd_sub_mul_right_right B A t
  first | exact h | simpa [Int.mul_comm] using h
theorem LInv.bounds {U V x0 y0 p0 p1 q0 q1 x y : Nat} {odd : Bool} (h : LInv U V x0 y0 odd p0 p1 q0 q1 x y) (hy : y ≠ 0) :
    p0 + x / y * q0 ≤ y0 ∧ p1 + x / y * q1 ≤ x0 ∧ (x % y ≠ 0 → q1 + (p1 + x / y * q1) ≤ x0) := by
  obtain ⟨A, B, s, -, -, -, -, -, -, -, -, e1, e2, -, -⟩ := h
  have hx : y * (x / y) + x % y = x := Nat.div_add_mod x y
  generalize x / y = t at *
  generalize x % y = r at *
  subst hx
  have f1 : x0 = (p1 + t * q1) * y + q1 * r := by rw [e1]; grind
  have f2 : y0 = (p0 + t * q0) * y + q0 * r := by rw [e2]; grind
  have hy1 : 1 ≤ y := by omega
  have g1 : (p1 + t * q1) * 1 ≤ (p1 + t * q1) * y := Nat.mul_le_mul_left _ hy1
  have g2 : (p0 + t * q0) * 1 ≤ (p0 + t * q0) * y := Nat.mul_le_mul_left _ hy1
  refine ⟨by omega, by omega, fun hr => ?_⟩
  have g3 : q1 * 1 ≤ q1 * r := Nat.mul_le_mul_left _ (by omega)
  omega
theorem LInv.pos {U V x0 y0 p0 p1 q0 q1 x y : Nat} {odd : Bool} (h : LInv U V x0 y0 odd p0 p1 q0 q1 x y) (hy : y ≠ 0) : 1 ≤ p1 + x / y * q1 := by
  obtain ⟨A, B, s, -, -, -, -, -, -, -, -, -, -, hxy, hc⟩ := h
  have ht : 1 ≤ x / y := (Nat.one_le_div_iff (by omega)).2 hxy
  rcases hc with h | h
  · obtain ⟨rfl, rfl, rfl, rfl⟩ := h; omega
  · omega
theorem LInv.step {U V x0 y0 p0 p1 q0 q1 x y : Nat} {odd : Bool} (h : LInv U V x0 y0 odd p0 p1 q0 q1 x y) (hy : y ≠ 0)
    (h1 : p1 + x / y * q1 ≤ x % y) (h2 : q1 + (p1 + x / y * q1) ≤ y - x % y) :
    LInv U V x0 y0 (!odd) q0 q1 (p0 + x / y * q0) (p1 + x / y * q1) y (x % y) := by
  obtain ⟨A, B, s, hs, hA, hB, hX, hY, hg, hU, hV, e1, e2, hxy, hc⟩ := h
  have hx : y * (x / y) + x % y = x := Nat.div_add_mod x y
  have hr : x % y < y := Nat.mod_lt _ (by omega)
  have ht : 1 ≤ x / y := (Nat.one_le_div_iff (by omega)).2 hxy
  generalize x / y = t at *
  generalize x % y = r at *
  have hxI : (x : Int) = y * t + r := by rw [← hx]; simp
  have hq1 : 1 ≤ q1 := by rcases hc with h | h <;> omega
  have htq : q1 ≤ t * q1 := by have := Nat.mul_le_mul_right q1 ht; omega
  have htq0 : q0 ≤ t * q0 := by have := Nat.mul_le_mul_right q0 ht; omega
  refine ⟨B, A - t * B, -s, by cases odd <;> simp [hs], by rw [hB]; grind, ?_, by rw [hY]; grind, ?_, by rw [gcd_turn, hg], ?_, ?_, ?_, ?_, by omega, .inr ⟨hq1, ?_, ?_, ?_, h1, by omega⟩⟩
  · rw [hA, hB]; push_cast; grind
  · have : (r : Int) = x - y * t := by omega
    rw [this, hX, hY]; push_cast; grind
  · rw [hU]; push_cast; grind
  · rw [hV]; push_cast; grind
  · rw [e1, ← hx]; grind
  · rw [e2, ← hx]; grind
  · rcases hc with h | h <;> omega
  · rcases hc with h | h
    · obtain ⟨rfl, rfl, rfl, rfl⟩ := h; omega
    · have := Nat.mul_le_mul_left t h.2.2.1; omega
  · rcases hc with h | h <;> omega
theorem LInv.leap {U V x0 y0 p0 p1 q0 q1 x y P u v : Nat} {odd : Bool} (h : LInv U V x0 y0 odd p0 p1 q0 q1 x y) (hp : p1 ≠ 0)
    (hU : U = x0 * P + u) (hV : V = y0 * P + v) (hu : u < P) (hv : v < P) (hpos : 0 < U) :
    ∃ A B : Nat, Nat.gcd A B = Nat.gcd U V ∧ B ≤ A ∧ A ≤ U ∧ A + B < U + V ∧
      (odd = false → p0 * U = p1 * V + A ∧ q1 * V = q0 * U + B) ∧ (odd = true → p1 * V = p0 * U + A ∧ q0 * U = q1 * V + B) := by
  obtain ⟨A, B, s, hs, hA, hB, hX, hY, hg, hU', hV', e1, e2, hxy, hc⟩ := h
  obtain ⟨c1, c2, c3, c4, c5, c6⟩ : 1 ≤ p1 ∧ 1 ≤ q0 ∧ q0 ≤ q1 ∧ p0 ≤ p1 ∧ q1 ≤ y ∧ p1 + q1 + y ≤ x := by
    rcases hc with h | h
    · omega
    · exact h
  have fA : A = x * P + s * (p0 * u - p1 * v) := by rw [hA, hX, hU, hV]; push_cast; grind
  have fB : B = y * P + s * (q1 * v - q0 * u) := by rw [hB, hY, hU, hV]; push_cast; grind
  have mul_le : ∀ a b : Nat, b < P → (a : Int) * b ≤ a * P := fun a b hb => by
    have : a * b ≤ a * P := Nat.mul_le_mul_left a (by omega)
    exact_mod_cast this
  have m1 := mul_le p0 u hu
  have m2 := mul_le p1 v hv
  have m3 := mul_le q1 v hv
  have m4 := mul_le q0 u hu
  have nn : ∀ a b : Nat, (0 : Int) ≤ (a : Int) * b := fun a b => by exact_mod_cast Nat.zero_le (a * b)
  have l1 : (q0 : Int) * P ≤ q1 * P := by exact_mod_cast Nat.mul_le_mul_right P c3
  have l2 : (p0 : Int) * P ≤ p1 * P := by exact_mod_cast Nat.mul_le_mul_right P c4
  have l3 : (q1 : Int) * P ≤ y * P := by exact_mod_cast Nat.mul_le_mul_right P c5
  have l4 : (p1 : Int) * P + q1 * P + y * P ≤ x * P := by
    have := Nat.mul_le_mul_right P c6
    rw [Nat.add_mul, Nat.add_mul] at this
    exact_mod_cast this
  have n1 := nn p0 u
  have n2 := nn p1 v
  have n3 := nn q1 v
  have n4 := nn q0 u
  have key : 0 ≤ B ∧ B ≤ A ∧ (odd = false → s = 1) ∧ (odd = true → s = -1) := by
    cases odd
    · simp only [Bool.false_eq_true, if_false] at hs
      subst hs
      rw [Int.one_mul] at fA fB
      exact ⟨by omega, by omega, fun _ => rfl, fun h => (by cases h)⟩
    · simp only [if_true] at hs
      subst hs
      rw [Int.neg_mul, Int.one_mul] at fA fB
      exact ⟨by omega, by omega, fun h => (by cases h), fun _ => rfl⟩
  obtain ⟨hB0, hBA, hs1, hs2⟩ := key
  obtain ⟨a, rfl⟩ : ∃ a : Nat, A = a := ⟨A.toNat, by omega⟩
  obtain ⟨b, rfl⟩ : ∃ b : Nat, B = b := ⟨B.toNat, by omega⟩
  have eU : U = q1 * a + p1 * b := by exact_mod_cast hU'
  have eV : V = q0 * a + p0 * b := by exact_mod_cast hV'
  have hba : b ≤ a := by omega
  have k1 : 1 * a ≤ q1 * a := Nat.mul_le_mul_right a (by omega)
  have k2 : 1 * b ≤ p1 * b := Nat.mul_le_mul_right b c1
  have k3 : 1 * a ≤ q0 * a := Nat.mul_le_mul_right a c2
  have ha : 0 < a := by
    rcases Nat.eq_zero_or_pos a with h | h
    · have : b = 0 := by omega
      subst h; subst this; simp at eU; omega
    · exact h
  refine ⟨a, b, hg, hba, by omega, by omega, fun h => ?_, fun h => ?_⟩
  · rw [hs1 h, Int.one_mul] at hA hB
    constructor
    · have : ((p0 * U : Nat) : Int) = ((p1 * V + a : Nat) : Int) := by push_cast; omega
      exact_mod_cast this
    · have : ((q1 * V : Nat) : Int) = ((q0 * U + b : Nat) : Int) := by push_cast; omega
      exact_mod_cast this
  · rw [hs2 h, Int.neg_mul, Int.one_mul] at hA hB
    constructor
    · have : ((p1 * V : Nat) : Int) = ((p0 * U + a : Nat) : Int) := by push_cast; omega
      exact_mod_cast this
    · have : ((q0 * U : Nat) : Int) = ((q1 * V + b : Nat) : Int) := by push_cast; omega
      exact_mod_cast this
theorem less_step {k x y v w oA oB br : Nat} {us xs ys : List Nat} (hu : us.length = k) (hx : xs.getD k 0 = x) (hy : ys.getD k 0 = y) (hb : br ≤ 1)
    (h : vl Q us + w * vl Q (ys.take k) + Q ^ k * oA = v * vl Q (xs.take k) + Q ^ k * (oB + br)) :
    vl Q (us ++ [subLo (addLo (mulLo v x) oA 0) (addLo (mulLo w y) oB 0) br]) + w * vl Q (ys.take (k + 1)) + Q ^ (k + 1) * (mulHi v x + addCy (mulLo v x) oA 0)
      = v * vl Q (xs.take (k + 1)) + Q ^ (k + 1) * (mulHi w y + addCy (mulLo w y) oB 0 + subBw (addLo (mulLo v x) oA 0) (addLo (mulLo w y) oB 0) br) := by
  rw [vl_snoc, hu, take_next xs k x hx, take_next ys k y hy, Nat.pow_succ]
  have e1 := mul_spec v x
  have e2 := add_spec (mulLo v x) oA 0
  have e3 := mul_spec w y
  have e4 := add_spec (mulLo w y) oB 0
  have e5 := sub_spec (addLo_lt (mulLo w y) oB 0) (addLo_lt (mulLo v x) oA 0) hb
  generalize subLo (addLo (mulLo v x) oA 0) (addLo (mulLo w y) oB 0) br = z at *
  generalize subBw (addLo (mulLo v x) oA 0) (addLo (mulLo w y) oB 0) br = b2 at *
  generalize addLo (mulLo v x) oA 0 = l1 at *
  generalize addCy (mulLo v x) oA 0 = c1 at *
  generalize mulHi v x = h1 at *
  generalize mulLo v x = m1 at *
  generalize addLo (mulLo w y) oB 0 = l2 at *
  generalize addCy (mulLo w y) oB 0 = c2 at *
  generalize mulHi w y = h2 at *
  generalize mulLo w y = m2 at *
  generalize Q ^ k = P at *
  generalize vl Q us = U at *
  generalize vl Q (xs.take k) = X at *
  generalize vl Q (ys.take k) = Y at *
  generalize Q = q at *
  have key : z + w * y + q * (h1 + c1) + oB + br = v * x + oA + q * (h2 + c2 + b2) := by grind
  have key2 : P * (z + w * y + q * (h1 + c1) + oB + br) = P * (v * x + oA + q * (h2 + c2 + b2)) := by rw [key]
  grind
theorem less_bound {v x oA : Nat} (hv : v < Q) (hx : x < Q) (ho : oA < Q) : mulHi v x + addCy (mulLo v x) oA 0 < Q := by
  have e1 := mul_spec v x
  have e2 := add_spec (mulLo v x) oA 0
  have h1 : v * x ≤ (Q - 1) * (Q - 1) := Nat.mul_le_mul (by omega) (by omega)
  have h2 : (Q - 1) * (Q - 1) + (Q - 1) = (Q - 1) * Q := by
    have : Q - 1 + 1 = Q := by unfold Q; omega
    conv => rhs; rw [← this]
    rw [Nat.mul_add, Nat.mul_one, this]
  have key : Q * (mulHi v x + addCy (mulLo v x) oA 0) ≤ (Q - 1) * Q := by
    rw [Nat.mul_add]; omega
  rw [Nat.mul_comm] at key
  have := Nat.le_of_mul_le_mul_right key Q_pos
  have := Q_pos
  omega
theorem less_end {M v w oA c D : Nat} {us xs ys : List Nat} (hn : xs.length ≤ M) (hm : ys.length ≤ M) (hz : us.length = M) (du : Dg Q us)
    (h : vl Q us + w * vl Q (ys.take M) + Q ^ M * oA = v * vl Q (xs.take M) + Q ^ M * c) (hd : v * vl Q xs = w * vl Q ys + D) (hD : D < Q ^ M) : vl Q us = D := by
  rw [List.take_of_length_le hn, List.take_of_length_le hm, hd] at h
  have h1 := vl_lt du
  rw [hz] at h1
  generalize Q ^ M = P at *
  have h2 : vl Q us + P * oA = D + P * c := by omega
  have h3 : (vl Q us + P * oA) % P = vl Q us := by rw [Nat.add_mul_mod_self_left, Nat.mod_eq_of_lt h1]
  rw [← h3, h2, Nat.add_mul_mod_self_left, Nat.mod_eq_of_lt hD]
theorem win_top {n h m : Nat} {xs : List Nat} (dx : Dg Q xs) (hl : xs.length ≤ n + 2) (hh : xs.getD (n + 1) 0 = h) (hm : xs.getD n 0 = m) :
    vl Q xs / Q ^ n = m + Q * h := by
  rw [vl_cut Q xs n, vl_drop Q xs n, vl_drop Q xs (n + 1), hh, hm, List.drop_eq_nil_of_le (show xs.length ≤ n + 1 + 1 by omega)]
  have h1 := vl_take_lt Q_pos dx n
  rw [Nat.add_mul_div_left _ _ (Nat.pow_pos Q_pos), Nat.div_eq_of_lt h1]
  simp [vl]
theorem win_eq {n h m s : Nat} {xs : List Nat} (dx : Dg Q xs) (hl : xs.length ≤ n + 2) (hh : xs.getD (n + 1) 0 = h) (hm : xs.getD n 0 = m) (hs : s ≤ 63) :
    vl Q xs / (Q ^ n * 2 ^ (64 - s)) = h * 2 ^ s + m / 2 ^ (64 - s) := by
  rw [← Nat.div_div_eq_div_mul, win_top dx hl hh hm]
  have e : Q * h = 2 ^ (64 - s) * (h * 2 ^ s) := by
    rw [show Q = 2 ^ (64 - s) * 2 ^ s by rw [← Nat.pow_add, show 64 - s + s = 64 by omega]; rfl]
    grind
  rw [e, Nat.add_mul_div_left _ _ (Nat.pow_pos (by omega)), Nat.add_comm]
theorem win_le {n h g : Nat} {xs ys : List Nat} (dx : Dg Q xs) (dy : Dg Q ys) (hl : xs.length ≤ n + 2) (ml : ys.length ≤ n + 2) (hh : xs.getD (n + 1) 0 = h) (hg : ys.getD (n + 1) 0 = g) (hle : vl Q ys ≤ vl Q xs) : g ≤ h := by
  have h1 := win_top dx hl hh rfl
  have h2 := win_top dy ml hg rfl
  have h3 : vl Q ys / Q ^ n ≤ vl Q xs / Q ^ n := Nat.div_le_div_right hle
  rw [h1, h2] at h3
  have h4 := dx.getD Q_pos n
  rcases Nat.lt_or_ge h g with hlt | hge
  · have : Q * (h + 1) ≤ Q * g := Nat.mul_le_mul_left _ hlt
    rw [Nat.mul_add] at this
    omega
  · exact hge
end Go.Proofs.YtpfeacdhplbblaaGreat
