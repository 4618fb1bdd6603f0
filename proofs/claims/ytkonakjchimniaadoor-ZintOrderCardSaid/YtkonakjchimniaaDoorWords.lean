/-
  Calls of nat on lists that are held as values: what each reads as, and how long it is at most.
-/
import Derived.Test.YtkonakjchimniaaDoorTrim
namespace Go.Proofs.YtkonakjchimniaaDoor
open Go.RowKit Go.Proofs.YtkonakjchimniaaDoor.Num
set_option linter.unusedVariables false
set_option maxRecDepth 100000

/-- The value reads as the number x, in at most L words. -/
def Nw (w : World) (v : Value) (x L : Nat) : Prop :=
  ∃ A n c xs, v = .slice A n c ∧ Rd .u64 w w.heap.size A n xs ∧ Dg Q xs ∧ n ≤ c ∧ c ≤ maxLen ∧ vl Q xs = x ∧ n ≤ L
/-- The value is the plain list of the number x, in at most L words. -/
def Cw (w : World) (v : Value) (x L : Nat) : Prop :=
  ∃ A c, v = .slice A (cn Q x).length c ∧ Rd .u64 w w.heap.size A (cn Q x).length (cn Q x) ∧ (cn Q x).length ≤ c ∧ c ≤ maxLen ∧ (cn Q x).length ≤ L

theorem Nw.step {w w' : World} {v : Value} {x L : Nat} (h : Nw w v x L) (hb : Below w.heap.size w w') : Nw w' v x L := by
  obtain ⟨A, n, c, xs, e, h1, h2⟩ := h
  exact ⟨A, n, c, xs, e, (h1.below hb (Nat.le_refl _)).more hb.size, h2⟩
theorem Cw.step {w w' : World} {v : Value} {x L : Nat} (h : Cw w v x L) (hb : Below w.heap.size w w') : Cw w' v x L := by
  obtain ⟨A, c, e, h1, h2⟩ := h
  exact ⟨A, c, e, (h1.below hb (Nat.le_refl _)).more hb.size, h2⟩
theorem Cw.nw {w : World} {v : Value} {x L : Nat} (h : Cw w v x L) : Nw w v x L := by
  obtain ⟨A, c, e, h1, h2, h3, h4⟩ := h
  exact ⟨A, _, c, _, e, h1, dg_cn Q_two x, h2, h3, vl_cn Q_two x, h4⟩
theorem Nw.lt {w : World} {v : Value} {x L : Nat} (h : Nw w v x L) : x < Q ^ L := by
  obtain ⟨A, n, c, xs, e, h1, dx, _, _, rfl, hL⟩ := h
  have := vl_lt dx
  rw [h1.len] at this
  exact Nat.lt_of_lt_of_le this (Nat.pow_le_pow_right Q_pos hL)
theorem Cw.of {w : World} {B : Nat} {v : Value} {x L : Nat} (h : Own .u64 71 w B v (cn Q x)) (hL : x < Q ^ L) : Cw w v x L := by
  obtain ⟨A, c, rfl, h1, h2, h3, _⟩ := h.form
  exact ⟨A, c, rfl, h3, h1, h2, cn_length_le Q_two hL⟩

theorem add_n {w : World} {u v : Value} {x y L M K : Nat} (hu : Nw w u x L) (hv : Nw w v y M) (hL : L ≤ 17592186044416) (hM : M ≤ 17592186044416) (hLK : L ≤ K) (hMK : M ≤ K) :
    Calls Tryd.prog 67 #[u, v] w fun e w' => ∃ r, e = .returned r ∧ Own .u64 71 w' w.heap.size r (cn Q (x + y)) ∧ Cw w' r (x + y) (K + 1) ∧ Below w.heap.size w w' := by
  have lx := hu.lt
  have ly := hv.lt
  obtain ⟨A, n, c, xs, rfl, hx, dx, _, _, rfl, hn⟩ := hu
  obtain ⟨D, m, d, ys, rfl, hy, dy, _, _, rfl, hm⟩ := hv
  refine (add_any A D n c m d xs ys w hx hy dx dy (by omega) (by omega)).mono fun e w' ⟨r, he, ho, hb⟩ => ⟨r, he, ho, Cw.of ho ?_, hb⟩
  have h1 : Q ^ L ≤ Q ^ K := Nat.pow_le_pow_right Q_pos hLK
  have h2 : Q ^ M ≤ Q ^ K := Nat.pow_le_pow_right Q_pos hMK
  have h3 := Q_two
  have h4 : Q ^ K * 2 ≤ Q ^ K * Q := Nat.mul_le_mul (Nat.le_refl _) h3
  rw [Nat.pow_succ]
  omega
theorem mul_n {w : World} {u v : Value} {x y L M : Nat} (hu : Nw w u x L) (hv : Nw w v y M) (hL : L ≤ 17592186044416) (hM : M ≤ 17592186044416) :
    Calls Tryd.prog 22 #[u, v] w fun e w' => ∃ r, e = .returned r ∧ Own .u64 71 w' w.heap.size r (cn Q (x * y)) ∧ Cw w' r (x * y) (L + M) ∧ Below w.heap.size w w' := by
  have lx := hu.lt
  have ly := hv.lt
  obtain ⟨A, n, c, xs, rfl, hx, dx, hc, hc', rfl, hn⟩ := hu
  obtain ⟨D, m, d, ys, rfl, hy, dy, hd, hd', rfl, hm⟩ := hv
  refine (mul_any A D n c m d xs ys w hx hy dx dy hc hc' hd hd' (by omega) (by omega)).mono fun e w' ⟨r, he, ho, hb⟩ => ⟨r, he, ho, Cw.of ho ?_, hb⟩
  rw [Nat.pow_add]
  exact Nat.mul_lt_mul'' lx ly
theorem sub_n {w : World} {u v : Value} {x y L M : Nat} (hu : Nw w u x L) (hv : Nw w v y M) (hL : L ≤ 35184372088832) (hM : M ≤ 35184372088832) (hle : y ≤ x) :
    Calls Tryd.prog 68 #[u, v] w fun e w' => ∃ r, e = .returned (.tuple #[r, .int .i64 0]) ∧ Own .u64 71 w' w.heap.size r (cn Q (x - y)) ∧ Cw w' r (x - y) L ∧ Below w.heap.size w w' := by
  have lx := hu.lt
  obtain ⟨A, n, c, xs, rfl, hx, dx, hc, hc', rfl, hn⟩ := hu
  obtain ⟨D, m, d, ys, rfl, hy, dy, hd, hd', rfl, hm⟩ := hv
  refine (sub_any A D n c m d xs ys w hx hy dx dy (by omega) (by omega)).mono fun e w' ⟨_, h2, hb⟩ => ?_
  obtain ⟨r, he, ho⟩ := h2 hle
  exact ⟨r, he, ho, Cw.of ho (by omega), hb⟩
theorem sub_less {w : World} {u v : Value} {x y L M : Nat} (hu : Nw w u x L) (hv : Nw w v y M) (hL : L ≤ 35184372088832) (hM : M ≤ 35184372088832) (hlt : x < y) :
    Calls Tryd.prog 68 #[u, v] w fun e w' => e = .returned (.tuple #[.slice none 0 0, .int .i64 4]) ∧ Below w.heap.size w w' := by
  obtain ⟨A, n, c, xs, rfl, hx, dx, hc, hc', rfl, hn⟩ := hu
  obtain ⟨D, m, d, ys, rfl, hy, dy, hd, hd', rfl, hm⟩ := hv
  exact (sub_any A D n c m d xs ys w hx hy dx dy (by omega) (by omega)).mono fun e w' ⟨h1, _, hb⟩ => ⟨h1 hlt, hb⟩
theorem cmp_n {w : World} {u v : Value} {x y L M : Nat} (hu : Nw w u x L) (hv : Nw w v y M) (hL : L ≤ 35184372088832) (hM : M ≤ 35184372088832) :
    Calls Tryd.prog 53 #[u, v] w fun e w' => e = .returned (.int .i64 (cmpN x y)) ∧ w = w' := by
  obtain ⟨A, n, c, xs, rfl, hx, dx, hc, hc', rfl, hn⟩ := hu
  obtain ⟨D, m, d, ys, rfl, hy, dy, hd, hd', rfl, hm⟩ := hv
  exact cmp_any _ A D n c m d xs ys w hx hy dx dy (by omega) (by omega)
/-- The plain lists of one number are the same. -/
theorem same_c {w : World} {u v : Value} {x y L M : Nat} (hu : Cw w u x L) (hv : Cw w v y M) (hxy : x = y) :
    Calls Tryd.prog 16 #[u, v] w fun e w' => e = .returned (.bool true) ∧ Below w.heap.size w w' := by
  subst hxy
  obtain ⟨A, c, rfl, hx, h1, h2, _⟩ := hu
  obtain ⟨D, d, rfl, hy, h3, h4, _⟩ := hv
  refine (same_any _ _ A D _ c _ d _ _ w hx hy (by omega) (by omega)).mono fun e w' ⟨he, m, hm⟩ => ⟨by rw [he, sameB_true rfl], ?_⟩
  rw [hm]
  exact below_drewN (Below.refl _ _) m
theorem Below.step {B : Nat} {a w w' : World} (h : Below B a w) (hB : B ≤ w.heap.size) (hb : Below w.heap.size w w') : Below B a w' := h.trans (hb.mono hB)
end Go.Proofs.YtkonakjchimniaaDoor
