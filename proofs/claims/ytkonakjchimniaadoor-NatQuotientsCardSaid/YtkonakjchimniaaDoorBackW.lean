/-
  Small things behind products and trims.
-/
import Derived.Test.YtkonakjchimniaaDoorDigits
import Derived.Test.YtkonakjchimniaaDoorDivFull
namespace Go.Proofs.YtkonakjchimniaaDoor
open Go.RowKit Go.Proofs.YtkonakjchimniaaDoor.Num
set_option linter.unusedVariables false
set_option maxRecDepth 100000

theorem mul_b {w : World} {u v : Value} {x y L M K : Nat} (hu : Nw w u x L) (hv : Nw w v y M) (hL : L ≤ 17592186044416) (hM : M ≤ 17592186044416) (hK : x * y < Q ^ K) :
    Calls Tryd.prog 22 #[u, v] w fun e w' => ∃ r, e = .returned r ∧ Own .u64 71 w' w.heap.size r (cn Q (x * y)) ∧ Cw w' r (x * y) K ∧ Below w.heap.size w w' :=
  (mul_n hu hv hL hM).mono fun e w' ⟨r, he, ho, _, hb⟩ => ⟨r, he, ho, Cw.of ho hK, hb⟩
theorem ntrim_zero {w : World} {u : Value} {L : Nat} (hu : Nw w u 0 L) (hL : L ≤ 17592186044000) :
    Calls Tryd.prog 21 #[u] w fun e w' => ∃ A c, e = .returned (.slice A 0 c) ∧ Below w.heap.size w w' := by
  refine (ntrim_n hu hL).mono fun e w' ⟨r, he, _, hc, hb⟩ => ?_
  obtain ⟨A, c, rfl, _⟩ := hc
  exact ⟨A, c, by rw [he, cn_zero]; rfl, hb⟩
theorem one_lit (w : World) : Nw (w.alloc (.cells #[.int .u64 1] 71)) (.slice (some ⟨w.heap.size, 0, none⟩) 1 1) 1 1 :=
  ⟨_, 1, 1, [1], rfl, Rd.lit1 .u64 w 71 1, Dg.cons (by unfold Q; omega) Dg.nil, Nat.le_refl _, by simp [maxLen], by simp [vl], Nat.le_refl _⟩
end Go.Proofs.YtkonakjchimniaaDoor
