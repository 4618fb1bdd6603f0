/-
  Words for the laws of layer 1: lists as they came in, copied, held against each other.
-/
import Derived.Test.YtkonakjchimniaaDoorRefI
import Derived.Test.YtkonakjchimniaaDoorSpeak
namespace Go.Proofs.YtkonakjchimniaaDoor
open Go.RowKit Go.Proofs.YtkonakjchimniaaDoor.Num
set_option linter.unusedVariables false
set_option maxRecDepth 100000

/-- The value reads as the words xs, at most L. -/
def Lw (w : World) (v : Value) (xs : List Nat) (L : Nat) : Prop :=
  ∃ A n c, v = .slice A n c ∧ Rd .u64 w w.heap.size A n xs ∧ Dg Q xs ∧ n ≤ c ∧ c ≤ maxLen ∧ n ≤ L
theorem Lw.step {w w' : World} {v : Value} {xs : List Nat} {L : Nat} (h : Lw w v xs L) (hb : Below w.heap.size w w') : Lw w' v xs L := by
  obtain ⟨A, n, c, e, h1, h2⟩ := h
  exact ⟨A, n, c, e, (h1.below hb (Nat.le_refl _)).more hb.size, h2⟩
theorem Lw.nw {w : World} {v : Value} {xs : List Nat} {L : Nat} (h : Lw w v xs L) : Nw w v (vl Q xs) L := by
  obtain ⟨A, n, c, e, h1, h2, h3, h4, h5⟩ := h
  exact ⟨A, n, c, xs, e, h1, h2, h3, h4, rfl, h5⟩
theorem Nw.lw {w : World} {v : Value} {x L : Nat} (h : Nw w v x L) : ∃ xs, vl Q xs = x ∧ Lw w v xs L := by
  obtain ⟨A, n, c, xs, e, h1, h2, h3, h4, h5, h6⟩ := h
  exact ⟨xs, h5, A, n, c, e, h1, h2, h3, h4, h6⟩
theorem Lw.of {w : World} {B : Nat} {v : Value} {xs : List Nat} {L : Nat} (h : Own .u64 71 w B v xs) (dx : Dg Q xs) (hL : xs.length ≤ L) : Lw w v xs L := by
  obtain ⟨A, c, rfl, h1, h2, h3, _⟩ := h.form
  exact ⟨A, _, c, rfl, h3, dx, h1, h2, hL⟩
theorem same_l {w : World} {u v : Value} {xs : List Nat} {L M : Nat} (hu : Lw w u xs L) (hv : Lw w v xs M) :
    Calls Tryd.prog 16 #[u, v] w fun e w' => e = .returned (.bool true) ∧ Below w.heap.size w w' := by
  obtain ⟨A, n, c, rfl, hx, _, h1, h2, _⟩ := hu
  obtain ⟨D, m, d, rfl, hy, _, h3, h4, _⟩ := hv
  refine (same_any _ _ A D _ c _ d _ _ w hx hy (by omega) (by omega)).mono fun e w' ⟨he, m, hm⟩ => ⟨by rw [he, sameB_true rfl], ?_⟩
  rw [hm]
  exact below_drewN (Below.refl _ _) m
theorem copy_l {w : World} {u : Value} {xs : List Nat} {L : Nat} (hu : Lw w u xs L) (hL : L ≤ 17592186044000) :
    Calls Tryd.prog 12 #[u] w fun e w' => ∃ r, e = .returned r ∧ Own .u64 71 w' w.heap.size r xs ∧ Lw w' r xs L ∧ Below w.heap.size w w' := by
  obtain ⟨A, n, c, rfl, hx, dx, h1, h2, h3⟩ := hu
  exact (copy_any A n c xs w hx (by omega)).mono fun e w' ⟨r, he, ho, hb⟩ => ⟨r, he, ho, Lw.of ho dx (by rw [hx.1]; exact h3), hb⟩
theorem spoil_b {w : World} {B : Nat} {v : Value} {zs : List Nat} (h : Own .u64 71 w B v zs) :
    Calls Tryd.prog 20 #[v] w fun e w' => e = .returned (.tuple #[]) ∧ w.grownBy w' v.ownBlock := spoil_own B v zs w h
theorem of_l {w : World} {u : Value} {xs : List Nat} {L : Nat} (hu : Lw w u xs L) (hL : L ≤ 1000000000) :
    Calls Tryd.prog 15 #[u] w (INew w (vl Q xs) (5 * L)) := by
  obtain ⟨A, n, c, rfl, hx, dx, h1, h2, h3⟩ := hu
  refine (rof_any A n c xs w hx dx (by omega)).mono fun e w' h => INew.of h ?_
  have h := len_words hx.1 dx (Nat.zero_le n)
  rw [List.drop_zero, Nat.sub_zero] at h
  exact Nat.lt_of_lt_of_le h (Nat.pow_le_pow_right (by omega) (by omega))
theorem to_l {w : World} {u : Value} {x L : Nat} (hu : Iw w u x L) (hL : L ≤ 100000000000) :
    Calls Tryd.prog 17 #[u] w fun e w' => ∃ r, e = .returned r ∧ Own .u64 71 w' w.heap.size r (cn Q x) ∧ Cw w' r x L ∧ Below w.heap.size w w' := by
  have hx := hu.lt
  refine (rto_any hu hL).mono fun e w' ⟨r, he, ho, hb⟩ => ⟨r, he, ho, Cw.of ho ?_, hb⟩
  exact Nat.lt_of_lt_of_le hx (Nat.pow_le_pow_left (by decide +kernel) L)
end Go.Proofs.YtkonakjchimniaaDoor
