/-
  The walk of RatSmall: true.
-/
import Derived.Test.YtpcchagnbkohnaaBundleG


namespace Go.Proofs.Ytpcchagnbkohnaa
open Go.RowKit Go.Proofs.Ytpcchagnbkohnaa.Num
set_option linter.unusedVariables false
set_option linter.unusedSimpArgs false
set_option maxRecDepth 100000

theorem div_one_i (n : Int) : (n : Rat) / ((1 : Int) : Rat) = (n : Rat) := by grind
set_option maxHeartbeats 8000000 in
theorem ratsmall_true (w : World) (n d : Int) (hn : (Lit.int .i64 n).wf = true) (hd : (Lit.int .i64 d).wf = true) :
    Calls Try.prog 6 #[.int .i64 n, .int .i64 d] w fun e w' => e = .returned (.bool true) ∧ Below w.heap.size w w' := by
  obtain ⟨n1', n2'⟩ : -9223372036854775808 ≤ n ∧ n ≤ 9223372036854775807 := by have h := bounds_i64 hn; omega
  obtain ⟨d1', d2'⟩ : -9223372036854775808 ≤ d ∧ d ≤ 9223372036854775807 := by have h := bounds_i64 hd; omega
  clear hn hd
  by_cases h0 : d = 0
  · subst h0
    clear d1' d2'
    go_enter Try.func6, Try.ntmps6
    go_wp2_with fail
    refine (rspeaks_true _).mono ?_
    rintro e w1 ⟨rfl, b1⟩
    have B := hide b1
    clear b1
    go_wp2_with fail
    refine (of_zero w1 n n1' n2').mono ?_
    rintro e w2 ⟨rfl, b⟩
    have B1 := hide b
    clear b
    go_wp2_with fail
    obtain ⟨x, y⟩ := fbox1 w2 false none 0 0 none 0 0
    generalize (w2.alloc (.cells #[.bool false, .slice none 0 0, .slice none 0 0] 28)) = w3 at *
    have b := Below.step1 B1.out x
    have Y := hide y
    have B := hide (Below.step B.out B.out.size b)
    generalize w2.heap.size = g at *
    clear x y b B1
    refine (whole_r w3 n n1' n2').mono ?_
    rintro e w4 ⟨v4, rfl, h4, b⟩
    have B := hide (Below.step B.out B.out.size b)
    have Y := hide (Y.out.step b)
    have U4 := hide h4
    clear h4 b
    go_wp2_with fail
    refine (small_r w4 n 1 n1' n2' (by omega) (by omega) (by omega)).mono ?_
    rintro e w5 ⟨v5, rfl, h5, b⟩
    rw [div_one_i] at h5
    have B := hide (Below.step B.out B.out.size b)
    have Y := hide (Y.out.step b)
    have SM := hide (rsame_c (U4.out.step b) h5)
    clear h5 b U4
    go_wp2_with fail
    refine SM.out.mono ?_
    rintro e w6 ⟨rfl, b⟩
    have B := hide (Below.step B.out B.out.size b)
    have Y := hide (Y.out.step b)
    clear b SM
    obtain ⟨p0, p1, p2⟩ := Y.out
    clear Y
    go_wp2_with fail
    refine (rsame_zero _).mono ?_
    rintro e w7 ⟨rfl, b⟩
    have B := hide (Below.step B.out B.out.size b)
    clear b
    go_wp2_with fail
    go_ret
    exact ⟨rfl, B.out⟩
  · have t0 : (d == 0) = false := beq_eq_false_iff_ne.2 h0
    have HD := hide h0
    clear h0
    go_enter Try.func6, Try.ntmps6
    go_wp2_with fail
    refine (rspeaks_true _).mono ?_
    rintro e w1 ⟨rfl, b1⟩
    have B := hide b1
    clear b1
    go_wp2_with fail
    refine (of_r w1 n d n1' n2' d1' d2' HD.out).mono ?_
    rintro e w2 ⟨v, rfl, h, b⟩
    obtain ⟨s1, A1, n1, c1, D1, m1, d1, rfl, h⟩ := h.parts
    have B1 := hide b
    have U := hide h
    clear b h
    go_wp2_with fail
    obtain ⟨x, y⟩ := fbox1 w2 s1 A1 n1 c1 D1 m1 d1
    generalize (w2.alloc (.cells #[.bool s1, .slice A1 n1 c1, .slice D1 m1 d1] 28)) = w3 at *
    have b := Below.step1 B1.out x
    have Y := hide y
    have U := hide (U.out.step x)
    have B := hide (Below.step B.out B.out.size b)
    generalize w2.heap.size = g at *
    clear x y b B1
    refine (whole_r w3 n n1' n2').mono ?_
    rintro e w4 ⟨v4, rfl, h4, b⟩
    have B := hide (Below.step B.out B.out.size b)
    have Y := hide (Y.out.step b)
    have U4 := hide h4
    have U := hide (U.out.step b)
    clear h4 b
    go_wp2_with fail
    refine (small_r w4 n 1 n1' n2' (by omega) (by omega) (by omega)).mono ?_
    rintro e w5 ⟨v5, rfl, h5, b⟩
    rw [div_one_i] at h5
    have B := hide (Below.step B.out B.out.size b)
    have Y := hide (Y.out.step b)
    have U := hide (U.out.step b)
    have SM := hide (rsame_c (U4.out.step b) h5)
    clear h5 b U4
    go_wp2_with fail
    refine SM.out.mono ?_
    rintro e w6 ⟨rfl, b⟩
    have B := hide (Below.step B.out B.out.size b)
    have Y := hide (Y.out.step b)
    have U := hide (U.out.step b)
    clear b SM
    go_wp2_with fail
    have dr := Below.drew (Below.refl w6.heap.size w6)
    have P := hide (Y.out.step dr)
    have U := hide (U.out.step dr)
    have B := hide (Below.step B.out B.out.size dr)
    clear Y dr
    go_region_held3 (fun W => W.cell? ⟨g, 0, none⟩ = some (.bool s1) ∧ W.cell? ⟨g, 1, none⟩ = some (.slice A1 n1 c1) ∧ W.cell? ⟨g, 2, none⟩ = some (.slice D1 m1 d1))
      (exact P.out)
      (first
        | (go_at_call 39; refine Calls.mono (small_r _ n d n1' n2' d1' d2' HD.out) ?_; rintro e wx ⟨vx, rfl, tx, bx⟩; replace P := hide (P.out.step bx); replace U := hide (U.out.step bx); replace B := hide (Below.step B.out B.out.size bx))
        | (go_at_call 15; refine Calls.mono (rsame_c U.out tx) ?_; rintro e wx ⟨rfl, bx⟩; replace P := hide (P.out.step bx); replace B := hide (Below.step B.out B.out.size bx)))
    all_goals
      go_wp2_with fail
      go_ret
      exact ⟨rfl, B.out⟩
end Go.Proofs.Ytpcchagnbkohnaa
