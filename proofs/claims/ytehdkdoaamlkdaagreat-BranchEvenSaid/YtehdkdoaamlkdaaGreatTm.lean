
/-
 Lists of terms: what stands at a place, their one form, products with lists. Plain mathematics: no Go here.
-/
import Derived.Test.YtehdkdoaamlkdaaGreatBundleA

namespace Go.Proofs.YtehdkdoaamlkdaaGreat.Num
abbrev Tm := Int × Rat
def dt : List Tm → (Int → Rat) → Rat
 | [], _ => 0
 | t :: ts, x => t.2 * x t.1 + dt ts x
def Sz (B : Nat) (r : Rat) (L : Nat) : Prop := r.num.natAbs < B ^ L ∧ r.den < B ^ L
theorem Sz.more {B : Nat} (hB : 0 < B) {r : Rat} {L M : Nat} (h : Sz B r L) (hL : L ≤ M) : Sz B r M :=
 ⟨Nat.lt_of_lt_of_le h.1 (Nat.pow_le_pow_right hB hL), Nat.lt_of_lt_of_le h.2 (Nat.pow_le_pow_right hB hL)⟩
theorem sz_mk {B : Nat} {p : Int} {q : Nat} {L : Nat} (hq : q ≠ 0) (h1 : p.natAbs < B ^ L) (h2 : q < B ^ L) : Sz B (mkRat p q) L := by
 have hdvd : ((p.natAbs.gcd q : Nat) : Int) ∣ p := Int.ofNat_dvd_left.2 (Nat.gcd_dvd_left _ _)
 constructor
 ·simp only [mkRat, hq, dite_false, Rat.normalize_eq]
  refine Nat.lt_of_le_of_lt ?_ h1
  rw [Int.natAbs_ediv_of_dvd hdvd]
  exact Nat.div_le_self _ _
 ·simp only [mkRat, hq, dite_false, Rat.normalize_eq]
  exact Nat.lt_of_le_of_lt (Nat.div_le_self _ _) h2
theorem mul_lt {a b x y : Nat} (h1 : a < x) (h2 : b < y) : a * b < x * y := by
 have := Nat.mul_le_mul (Nat.succ_le_of_lt h1) (Nat.succ_le_of_lt h2)
 have e : (a + 1) * (b + 1) = a * b + a + b + 1 := by rw [Nat.add_mul, Nat.mul_add]; omega
 rw [Nat.succ_eq_add_one, Nat.succ_eq_add_one, e] at this
 omega
theorem sz_mul {B : Nat} {a b : Rat} {L M : Nat} (ha : Sz B a L) (hb : Sz B b M) : Sz B (a * b) (L + M) := by
 have e : a * b = mkRat (a.num * b.num) (a.den * b.den) := by rw [Rat.mul_def, Rat.normalize_eq_mkRat]
 rw [e]
 refine sz_mk (Nat.mul_ne_zero a.den_nz b.den_nz) ?_ ?_
 ·rw [Int.natAbs_mul, Nat.pow_add]; exact mul_lt ha.1 hb.1
 ·rw [Nat.pow_add]; exact mul_lt ha.2 hb.2
theorem sz_add {B : Nat} (hB : 2 ≤ B) {a b : Rat} {L M : Nat} (ha : Sz B a L) (hb : Sz B b M) : Sz B (a + b) (L + M + 1) := by
 have e : a + b = mkRat (a.num * b.den + b.num * a.den) (a.den * b.den) := by rw [Rat.add_def, Rat.normalize_eq_mkRat]
 rw [e]
 have p1 := mul_lt ha.1 hb.2
 have p2 := mul_lt hb.1 ha.2
 have p3 := mul_lt ha.2 hb.2
 rw [← Nat.pow_add] at p1 p2 p3
 rw [Nat.add_comm M L] at p2
 have p4 : B ^ (L + M) * 2 ≤ B ^ (L + M + 1) := by rw [Nat.pow_succ]; exact Nat.mul_le_mul (Nat.le_refl _) hB
 refine sz_mk (Nat.mul_ne_zero a.den_nz b.den_nz) ?_ (by omega)
 refine Nat.lt_of_le_of_lt (Int.natAbs_add_le _ _) ?_
 rw [Int.natAbs_mul, Int.natAbs_mul, Int.natAbs_natCast, Int.natAbs_natCast]
 omega
theorem sz_base {B C k : Nat} (h : B ≤ C ^ k) {r : Rat} {L : Nat} (hr : Sz B r L) : Sz C r (k * L) := by
 have e : B ^ L ≤ C ^ (k * L) := by rw [Nat.pow_mul]; exact Nat.pow_le_pow_left h L
 exact ⟨Nat.lt_of_lt_of_le hr.1 e, Nat.lt_of_lt_of_le hr.2 e⟩
end Go.Proofs.YtehdkdoaamlkdaaGreat.Num
