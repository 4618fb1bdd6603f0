
/-
  Queues: the reference's order.
-/
import Derived.Test.YtpfeacdhplbblaaGreatQu8
import Derived.Test.YtpfeacdhplbblaaGreatBundleN
import Derived.Test.YtpfeacdhplbblaaGreatBundleH
import Derived.Deep.DeepCutAuto
import Derived.BigRegion
import Derived.Deep.RegionHeld3


namespace Go.Proofs.YtpfeacdhplbblaaGreat
open Go.RowKit Go.Proofs.YtpfeacdhplbblaaGreat.Num
set_option linter.unusedVariables false
set_option linter.unusedSimpArgs false
set_option maxRecDepth 100000
theorem cmp_ways (a b : Rat) : (a < b ∧ cmpR a b = -1) ∨ (a = b ∧ cmpR a b = 0) ∨ (b < a ∧ cmpR a b = 1) := by
  unfold cmpR
  by_cases h : a < b
  · exact .inl ⟨h, if_pos h⟩
  · rw [if_neg h]
    by_cases h2 : b < a
    · exact .inr (.inr ⟨h2, if_pos h2⟩)
    · exact .inr (.inl ⟨by grind, if_neg h2⟩)
theorem less_ways (a b : Int) : (a < b ∧ Go.Lib.compareInt a b = -1) ∨ (a = b ∧ Go.Lib.compareInt a b = 0) ∨ (b < a ∧ Go.Lib.compareInt a b = 1) := by
  unfold Go.Lib.compareInt
  by_cases h : a < b
  · exact .inl ⟨h, if_pos h⟩
  · rw [if_neg h]
    by_cases h2 : b < a
    · exact .inr (.inr ⟨h2, if_pos h2⟩)
    · exact .inr (.inl ⟨by omega, if_neg h2⟩)
theorem rless_b (w : World) (x y : Int) : Calls Tryz.prog 48 #[.int .i64 x, .int .i64 y] w fun e w' => e = .returned (.int .i64 (Go.Lib.compareInt x y)) ∧ Below w.heap.size w w' := by
  go_enter Tryz.func48, Tryz.ntmps48
  rcases less_ways x y with ⟨h, e⟩ | ⟨h, e⟩ | ⟨h, e⟩
  · rw [e]
    have t1 : decide (x < y) = true := decide_eq_true h
    go_wp2_with fail
    go_ret
    exact ⟨rfl, Below.refl _ _⟩
  · rw [e]
    subst h
    have t1 : decide (x < x) = false := decide_eq_false (by omega)
    go_wp2_with fail
    go_ret
    exact ⟨rfl, Below.refl _ _⟩
  · rw [e]
    have t1 : decide (x < y) = false := decide_eq_false (by omega)
    have t2 : decide (y < x) = true := decide_eq_true h
    go_wp2_with fail
    go_ret
    exact ⟨rfl, Below.refl _ _⟩
theorem ah_first {o : Int} {x y : Nx} {t : Bool} (h1 : o ≠ 1 → (t = true ↔ x.x.r < y.x.r ∨ x.x.r = y.x.r ∧ (y.dp < x.dp ∨ x.dp = y.dp ∧ x.id < y.id))) (h2 : o = 1 → (t = true ↔ y.dp < x.dp ∨ x.dp = y.dp ∧ (x.x.r < y.x.r ∨ x.x.r = y.x.r ∧ x.id < y.id))) : t = true ↔ ah o x y := by
  unfold ah ak ky
  by_cases h : o = 1
  · rw [h2 h]
    simp [h]
  · rw [h1 h]
    simp [h]
set_option maxHeartbeats 16000000 in
theorem rahead_c {w : World} {o : Int} {x y : Nx} (hx : Ra w (rx x.x) x.x.r 6) (hy : Ra w (rx y.x) y.x.r 6) :
    Calls Tryz.prog 28 #[.int .i64 o, nx x, nx y] w fun e w' => BRet (ah o x y) e ∧ Below w.heap.size w w' := by
  have b2 : Below w.heap.size w ((w.alloc (nbox x)).alloc (nbox y)).drew := (((Below.refl _ _).alloc (Nat.le_refl _) _).alloc (by simp) _).drew
  have CX := hide (show ∀ W, Below ((w.alloc (nbox x)).alloc (nbox y)).drew.heap.size ((w.alloc (nbox x)).alloc (nbox y)).drew W → Nq W w.heap.size x ∧ Nq W (w.heap.size + 1) y ∧ Ra W (rx x.x) x.x.r 6 ∧ Ra W (rx y.x) y.x.r 6 ∧ Below w.heap.size w W from fun W h =>
    ⟨(show Nq ((w.alloc (nbox x)).alloc (nbox y)).drew w.heap.size x from heap_alloc2_old w _ _).step h, (show Nq ((w.alloc (nbox x)).alloc (nbox y)).drew (w.heap.size + 1) y from heap_alloc2_new w _ _).step h, (hx.step b2).step h, (hy.step b2).step h, Below.step b2 b2.size h⟩)
  clear hx hy b2
  go_enter Tryz.func28, Tryz.ntmps28
  go_wp2_with fail
  have B6 := hide (Below.refl ((w.alloc (nbox x)).alloc (nbox y)).drew.heap.size ((w.alloc (nbox x)).alloc (nbox y)).drew)
  generalize ((w.alloc (nbox x)).alloc (nbox y)) = W0 at *
  go_region_held3 (fun W => (W.cell? ⟨w.heap.size, 0, none⟩ = some (.int .i64 x.id) ∧ W.cell? ⟨w.heap.size, 1, none⟩ = some (.int .i64 x.dp) ∧ W.cell? ⟨w.heap.size, 2, none⟩ = some (.bool x.x.s) ∧ W.cell? ⟨w.heap.size, 3, none⟩ = some (sv x.x.u) ∧ W.cell? ⟨w.heap.size, 4, none⟩ = some (sv x.x.t)) ∧ (W.cell? ⟨w.heap.size + 1, 0, none⟩ = some (.int .i64 y.id) ∧ W.cell? ⟨w.heap.size + 1, 1, none⟩ = some (.int .i64 y.dp) ∧ W.cell? ⟨w.heap.size + 1, 2, none⟩ = some (.bool y.x.s) ∧ W.cell? ⟨w.heap.size + 1, 3, none⟩ = some (sv y.x.u) ∧ W.cell? ⟨w.heap.size + 1, 4, none⟩ = some (sv y.x.t)))
    (with_reducible exact ⟨(CX.out _ B6.out).1.all, (CX.out _ B6.out).2.1.all⟩)
    (first
      | (go_at_call 27; refine Calls.mono (rof_f (L := 6) (CX.out _ B6.out).2.2.1 (by omega) (by omega)) ?_; rintro e wx ⟨ya, rfl, ha, ra, bx⟩; have HA := hide ha; have RA := hide ra; replace B6 := hide (Below.step1 B6.out bx); clear bx ha ra)
      | (go_at_call 27; refine Calls.mono (rof_f (L := 6) (CX.out _ B6.out).2.2.2.1 (by omega) (by omega)) ?_; rintro e wx ⟨yb, rfl, hb, rb, bx⟩; have HBq := hide hb; have RBq := hide rb; replace RA := hide (RA.out.step bx); replace B6 := hide (Below.step1 B6.out bx); clear bx hb rb)
      | (go_at_call 33; refine Calls.mono (rqcmp_s (L := 30) RA.out RBq.out (by omega) (by omega)) ?_; rintro e wx ⟨rfl, bx⟩; replace B6 := hide (Below.step1 B6.out bx); clear bx)
      | (go_at_call 48; refine Calls.mono (rless_b _ y.dp x.dp) ?_; rintro e wx ⟨rfl, bx⟩; replace B6 := hide (Below.step1 B6.out bx); clear bx))
  all_goals
    rw [HA.out, HBq.out]
    have P := CX.out _ B6.out
    have BL := hide P.2.2.2.2
    obtain ⟨x0, x1, x2, x3, x4⟩ := P.1.all
    obtain ⟨y0, y1, y2, y3, y4⟩ := P.2.1.all
    clear P
    by_cases ho : o = 1
    · have tq : (o == 1) = true := by simp [ho]
      rcases less_ways y.dp x.dp with ⟨hd, ed⟩ | ⟨hd, ed⟩ | ⟨hd, ed⟩
      · rw [ed]
        go_wp2_with fail
        go_ret
        exact ⟨⟨true, rfl, ah_first (fun h => absurd ho h) (fun _ => by simp [hd])⟩, BL.out⟩
      · rw [ed]
        rcases cmp_ways x.x.r y.x.r with ⟨hc, ec⟩ | ⟨hc, ec⟩ | ⟨hc, ec⟩
        · rw [ec]
          go_wp2_with fail
          go_ret
          exact ⟨⟨true, rfl, ah_first (fun h => absurd ho h) (fun _ => by simp [hd, hc])⟩, BL.out⟩
        · rw [ec]
          go_wp2_with fail
          go_ret
          exact ⟨⟨_, rfl, ah_first (fun h => absurd ho h) (fun _ => by simp [hd, hc])⟩, BL.out⟩
        · rw [ec]
          go_wp2_with fail
          go_ret
          exact ⟨⟨false, rfl, ah_first (fun h => absurd ho h) (fun _ => by simp [hd]; constructor <;> grind)⟩, BL.out⟩
      · rw [ed]
        go_wp2_with fail
        go_ret
        exact ⟨⟨false, rfl, ah_first (fun h => absurd ho h) (fun _ => by simp; omega)⟩, BL.out⟩
    · have tq : (o == 1) = false := by simp [ho]
      rcases cmp_ways x.x.r y.x.r with ⟨hc, ec⟩ | ⟨hc, ec⟩ | ⟨hc, ec⟩
      · rw [ec]
        go_wp2_with fail
        go_ret
        exact ⟨⟨true, rfl, ah_first (fun _ => by simp [hc]) (fun h => absurd h ho)⟩, BL.out⟩
      · rw [ec]
        rcases less_ways y.dp x.dp with ⟨hd, ed⟩ | ⟨hd, ed⟩ | ⟨hd, ed⟩
        · rw [ed]
          go_wp2_with fail
          go_ret
          exact ⟨⟨true, rfl, ah_first (fun _ => by simp [hc, hd]) (fun h => absurd h ho)⟩, BL.out⟩
        · rw [ed]
          go_wp2_with fail
          go_ret
          exact ⟨⟨_, rfl, ah_first (fun _ => by simp [hc, hd]) (fun h => absurd h ho)⟩, BL.out⟩
        · rw [ed]
          go_wp2_with fail
          go_ret
          exact ⟨⟨false, rfl, ah_first (fun _ => by simp [hc]; constructor <;> omega) (fun h => absurd h ho)⟩, BL.out⟩
      · rw [ec]
        go_wp2_with fail
        go_ret
        exact ⟨⟨false, rfl, ah_first (fun _ => by simp; constructor <;> grind) (fun h => absurd h ho)⟩, BL.out⟩
end Go.Proofs.YtpfeacdhplbblaaGreat
