/-
  The walks of NatGcds and NatQuotients: true.
-/
import Derived.Test.YtkonakjchimniaaDoorGcd
import Derived.Test.YtkonakjchimniaaDoorRefM
import Derived.Test.YtkonakjchimniaaDoorBackW
namespace Go.Proofs.YtkonakjchimniaaDoor
open Go.RowKit Go.Proofs.YtkonakjchimniaaDoor.Num
set_option linter.unusedVariables false
set_option maxRecDepth 100000

set_option maxHeartbeats 8000000 in
theorem gcds_true (w : World) (u v t : Value) (x y z : Nat) (hu : Nw w u x 17592186043904) (hv : Nw w v y 17592186043904) (ht : Nw w t z 17592186043904) :
    Calls Tryd.prog 4 #[u, v, t] w fun e w' => e = .returned (.bool true) ∧ Below w.heap.size w w' := by
  obtain ⟨xs, hx, A, n, c, rfl, rx, dx, h1, h2, -⟩ := hu.lw
  obtain ⟨ys, hy, D, m, d, rfl, ry, dy, h3, h4, -⟩ := hv.lw
  obtain ⟨zs, hz, F, k, f, rfl, rz, dz, h5, h6, -⟩ := ht.lw
  clear hu hv ht
  by_cases hg : n ≤ 30 ∧ m ≤ 30 ∧ k ≤ 30
  case neg =>
    clear rx ry rz dx dy dz h1 h2 h3 h4 h5 h6 hx hy hz
    by_cases g1 : n ≤ 30
    · have t1 : decide ((30 : Int) < (n : Int)) = false := decide_eq_false (by omega)
      by_cases g2 : m ≤ 30
      · have t2 : decide ((30 : Int) < (m : Int)) = false := decide_eq_false (by omega)
        have t3 : decide ((30 : Int) < (k : Int)) = true := decide_eq_true (by omega)
        go_enter Tryd.func4, Tryd.ntmps4
        go_wp2_with (go_at_call 11; refine (speaks_true w).mono ?_; rintro e w1 ⟨rfl, hb⟩)
        go_ret
        exact ⟨rfl, hb⟩
      · have t2 : decide ((30 : Int) < (m : Int)) = true := decide_eq_true (by omega)
        go_enter Tryd.func4, Tryd.ntmps4
        go_wp2_with (go_at_call 11; refine (speaks_true w).mono ?_; rintro e w1 ⟨rfl, hb⟩)
        go_ret
        exact ⟨rfl, hb⟩
    · have t1 : decide ((30 : Int) < (n : Int)) = true := decide_eq_true (by omega)
      go_enter Tryd.func4, Tryd.ntmps4
      go_wp2_with (go_at_call 11; refine (speaks_true w).mono ?_; rintro e w1 ⟨rfl, hb⟩)
      go_ret
      exact ⟨rfl, hb⟩
  case pos =>
  obtain ⟨g1, g2, g3⟩ := hg
  have t1 : decide ((30 : Int) < (n : Int)) = false := decide_eq_false (by omega)
  have t2 : decide ((30 : Int) < (m : Int)) = false := decide_eq_false (by omega)
  have t3 : decide ((30 : Int) < (k : Int)) = false := decide_eq_false (by omega)
  have U : Hid (Nw w (.slice A n c) x 30) := hide ⟨A, n, c, xs, rfl, rx, dx, h1, h2, hx, g1⟩
  have V : Hid (Nw w (.slice D m d) y 30) := hide ⟨D, m, d, ys, rfl, ry, dy, h3, h4, hy, g2⟩
  have T : Hid (Nw w (.slice F k f) z 30) := hide ⟨F, k, f, zs, rfl, rz, dz, h5, h6, hz, g3⟩
  clear rx ry rz dx dy dz h1 h2 h3 h4 h5 h6 hx hy hz g1 g2 g3
  by_cases h0 : Nat.gcd x y = 0
  · obtain ⟨rfl, rfl⟩ := Nat.gcd_eq_zero_iff.1 h0
    go_enter Tryd.func4, Tryd.ntmps4
    go_wp2_with fail
    refine (speaks_true w).mono ?_
    rintro e w1 ⟨rfl, b⟩
    have U := hide (U.out.step b)
    have V := hide (V.out.step b)
    have T := hide (T.out.step b)
    have B := hide b
    clear b
    go_wp2_with fail
    refine (gcd_c U.out V.out (by omega)).mono ?_
    rintro e w2 ⟨g, rfl, -, cg, b⟩
    have U := hide (U.out.step b)
    have V := hide (V.out.step b)
    have T := hide (T.out.step b)
    have B := hide (Below.step B.out B.out.size b)
    clear b
    obtain ⟨Ag, ng, cgc, rfl, hz, -⟩ := cg.form
    obtain rfl := hz h0
    clear cg hz
    go_wp2_with fail
    refine (ntrim_zero U.out (by omega)).mono ?_
    rintro e w3 ⟨A1, c1, rfl, b⟩
    have U := hide (U.out.step b)
    have V := hide (V.out.step b)
    have T := hide (T.out.step b)
    have B := hide (Below.step B.out B.out.size b)
    clear b
    go_wp2_with fail
    refine (ntrim_zero V.out (by omega)).mono ?_
    rintro e w4 ⟨A2, c2, rfl, b⟩
    have U := hide (U.out.step b)
    have V := hide (V.out.step b)
    have T := hide (T.out.step b)
    have B := hide (Below.step B.out B.out.size b)
    clear b
    go_wp2_with fail
    go_ret
    exact ⟨rfl, B.out⟩
  · have HP := hide (Nat.pos_of_ne_zero h0)
    have e1 := hide (Nat.mod_eq_zero_of_dvd (Nat.gcd_dvd_left x y))
    have e2 := hide (Nat.mod_eq_zero_of_dvd (Nat.gcd_dvd_right x y))
    have e3 := hide (Nat.gcd_mul_right x z y)
    obtain ⟨G, hG⟩ : ∃ G, Hid (Nat.gcd x y = G) := ⟨_, hide rfl⟩
    rw [hG.out] at HP e1 e2 e3 h0
    go_enter Tryd.func4, Tryd.ntmps4
    go_wp2_with fail
    refine (speaks_true w).mono ?_
    rintro e w1 ⟨rfl, b⟩
    have U := hide (U.out.step b)
    have V := hide (V.out.step b)
    have T := hide (T.out.step b)
    have B := hide b
    clear b
    go_wp2_with fail
    refine (gcd_c U.out V.out (by omega)).mono ?_
    rintro e w2 ⟨g, rfl, -, cg, b⟩
    have U := hide (U.out.step b)
    have V := hide (V.out.step b)
    have T := hide (T.out.step b)
    have B := hide (Below.step B.out B.out.size b)
    clear b
    rw [hG.out] at cg
    obtain ⟨Ag, ng, cgc, rfl, -, hz⟩ := cg.form
    have tg := hz h0
    have CG := hide cg
    clear cg hz
    go_wp2_with fail
    refine (ndiv_exact U.out CG.out.nw (by omega) HP.out e1.out).mono ?_
    rintro e w3 ⟨q1, A1, c1, rfl, b⟩
    have U := hide (U.out.step b)
    have V := hide (V.out.step b)
    have T := hide (T.out.step b)
    have CG := hide (CG.out.step b)
    have B := hide (Below.step B.out B.out.size b)
    clear b
    go_wp2_with fail
    refine (ndiv_exact V.out CG.out.nw (by omega) HP.out e2.out).mono ?_
    rintro e w4 ⟨q2, A2, c2, rfl, b⟩
    have U := hide (U.out.step b)
    have V := hide (V.out.step b)
    have T := hide (T.out.step b)
    have CG := hide (CG.out.step b)
    have B := hide (Below.step B.out B.out.size b)
    clear b
    go_wp2_with fail
    refine (mul_n U.out T.out (by omega) (by omega)).mono ?_
    rintro e w5 ⟨m1, rfl, -, cm, b⟩
    have U := hide (U.out.step b)
    have V := hide (V.out.step b)
    have T := hide (T.out.step b)
    have CG := hide (CG.out.step b)
    have B := hide (Below.step B.out B.out.size b)
    have M1 := hide cm
    clear b cm
    go_wp2_with fail
    refine (mul_n V.out T.out (by omega) (by omega)).mono ?_
    rintro e w6 ⟨m2, rfl, -, cm, b⟩
    have U := hide (U.out.step b)
    have V := hide (V.out.step b)
    have T := hide (T.out.step b)
    have CG := hide (CG.out.step b)
    have M1 := hide (M1.out.step b)
    have B := hide (Below.step B.out B.out.size b)
    have M2 := hide cm
    clear b cm
    go_wp2_with fail
    refine (gcd_c M1.out.nw M2.out.nw (by omega)).mono ?_
    rintro e w7 ⟨g2, rfl, -, cm, b⟩
    have U := hide (U.out.step b)
    have V := hide (V.out.step b)
    have T := hide (T.out.step b)
    have CG := hide (CG.out.step b)
    have B := hide (Below.step B.out B.out.size b)
    have G2 := hide cm
    clear b cm
    go_wp2_with fail
    refine (mul_n CG.out.nw T.out (by omega) (by omega)).mono ?_
    rintro e w8 ⟨m3, rfl, -, cm, b⟩
    have U := hide (U.out.step b)
    have V := hide (V.out.step b)
    have T := hide (T.out.step b)
    have CG := hide (CG.out.step b)
    have G2 := hide (G2.out.step b)
    have B := hide (Below.step B.out B.out.size b)
    have M3 := hide cm
    clear b cm
    go_wp2_with fail
    refine (same_c G2.out M3.out e3.out).mono ?_
    rintro e w9 ⟨rfl, b⟩
    have U := hide (U.out.step b)
    have V := hide (V.out.step b)
    have T := hide (T.out.step b)
    have CG := hide (CG.out.step b)
    have B := hide (Below.step B.out B.out.size b)
    clear b
    go_wp2_with fail
    go_ret
    exact ⟨rfl, B.out⟩
set_option maxHeartbeats 8000000 in
theorem quotients_true (w : World) (u v : Value) (x y : Nat) (hu : Nw w u x 17592186043904) (hv : Nw w v y 17592186043904) :
    Calls Tryd.prog 3 #[u, v] w fun e w' => e = .returned (.bool true) ∧ Below w.heap.size w w' := by
  obtain ⟨xs, hx, A, n, c, rfl, rx, dx, h1, h2, -⟩ := hu.lw
  obtain ⟨ys, hy, D, m, d, rfl, ry, dy, h3, h4, -⟩ := hv.lw
  clear hu hv
  by_cases hg : n ≤ 12 ∧ m ≤ 12
  case neg =>
    clear rx ry dx dy h1 h2 h3 h4 hx hy
    by_cases g1 : n ≤ 12
    · have t1 : decide ((12 : Int) < (n : Int)) = false := decide_eq_false (by omega)
      have t2 : decide ((12 : Int) < (m : Int)) = true := decide_eq_true (by omega)
      go_enter Tryd.func3, Tryd.ntmps3
      go_wp2_with (go_at_call 11; refine (speaks_true w).mono ?_; rintro e w1 ⟨rfl, hb⟩)
      go_ret
      exact ⟨rfl, hb⟩
    · have t1 : decide ((12 : Int) < (n : Int)) = true := decide_eq_true (by omega)
      go_enter Tryd.func3, Tryd.ntmps3
      go_wp2_with (go_at_call 11; refine (speaks_true w).mono ?_; rintro e w1 ⟨rfl, hb⟩)
      go_ret
      exact ⟨rfl, hb⟩
  case pos =>
  obtain ⟨g1, g2⟩ := hg
  have t1 : decide ((12 : Int) < (n : Int)) = false := decide_eq_false (by omega)
  have t2 : decide ((12 : Int) < (m : Int)) = false := decide_eq_false (by omega)
  have U : Hid (Lw w (.slice A n c) xs 12) := hide ⟨A, n, c, rfl, rx, dx, h1, h2, g1⟩
  have V : Hid (Lw w (.slice D m d) ys 12) := hide ⟨D, m, d, rfl, ry, dy, h3, h4, g2⟩
  have HX := hide hx
  have HY := hide hy
  clear rx ry dx dy h1 h2 h3 h4 hx hy g1 g2
  rcases Nat.eq_zero_or_pos y with h0 | h0
  · subst h0
    go_enter Tryd.func3, Tryd.ntmps3
    go_wp2_with fail
    refine (speaks_true w).mono ?_
    rintro e w1 ⟨rfl, b⟩
    have U := hide (U.out.step b)
    have V := hide (V.out.step b)
    have B := hide b
    clear b
    go_wp2_with fail
    refine (copy_l U.out (by omega)).mono ?_
    rintro e w2 ⟨r1, rfl, -, c1, b⟩
    have U := hide (U.out.step b)
    have V := hide (V.out.step b)
    have B := hide (Below.step B.out B.out.size b)
    have X := hide c1
    clear b c1
    go_wp2_with fail
    refine (copy_l V.out (by omega)).mono ?_
    rintro e w3 ⟨r2, rfl, -, c2, b⟩
    have U := hide (U.out.step b)
    have V := hide (V.out.step b)
    have X := hide (X.out.step b)
    have B := hide (Below.step B.out B.out.size b)
    have Y := hide c2
    clear b c2
    go_wp2_with fail
    refine (ndivmod_zero (show Nw _ _ x 12 from by rw [← HX.out]; exact X.out.nw) (show Nw _ _ 0 12 from by rw [← HY.out]; exact Y.out.nw) (by omega)).mono ?_
    rintro e w4 ⟨rfl, b⟩
    have U := hide (U.out.step b)
    have V := hide (V.out.step b)
    have X := hide (X.out.step b)
    have Y := hide (Y.out.step b)
    have B := hide (Below.step B.out B.out.size b)
    clear b
    go_wp2_with fail
    refine (gcd_c (show Nw _ _ x 12 from by rw [← HX.out]; exact X.out.nw) (show Nw _ _ 0 12 from by rw [← HY.out]; exact Y.out.nw) (by omega)).mono ?_
    rintro e w5 ⟨gv, rfl, -, cg, b⟩
    have U := hide (U.out.step b)
    have V := hide (V.out.step b)
    have X := hide (X.out.step b)
    have Y := hide (Y.out.step b)
    have B := hide (Below.step B.out B.out.size b)
    have CG := hide cg
    clear b cg
    go_wp2_with fail
    refine (of_l V.out (by omega)).mono ?_
    rintro e w6 ⟨mb, rfl, -, cb, b⟩
    have U := hide (U.out.step b)
    have V := hide (V.out.step b)
    have X := hide (X.out.step b)
    have Y := hide (Y.out.step b)
    have CG := hide (CG.out.step b)
    have B := hide (Below.step B.out B.out.size b)
    clear b
    rw [HY.out] at cb
    obtain ⟨An, nn, cn_, rfl, hz, -⟩ := cb.form
    obtain rfl := hz rfl
    have MB := hide cb
    clear cb hz
    go_wp2_with fail
    refine (of_l U.out (by omega)).mono ?_
    rintro e w7 ⟨ma, rfl, -, ca, b⟩
    have U := hide (U.out.step b)
    have V := hide (V.out.step b)
    have X := hide (X.out.step b)
    have Y := hide (Y.out.step b)
    have CG := hide (CG.out.step b)
    have MB := hide (MB.out.step b)
    have B := hide (Below.step B.out B.out.size b)
    have MA := hide ca
    clear b ca
    go_wp2_with fail
    refine (igcd (x := x) (by rw [← HX.out]; exact MA.out.iw) MB.out.iw (by omega)).mono ?_
    rintro e w8 ⟨mg, rfl, -, cg, b⟩
    have U := hide (U.out.step b)
    have V := hide (V.out.step b)
    have X := hide (X.out.step b)
    have Y := hide (Y.out.step b)
    have CG := hide (CG.out.step b)
    have MB := hide (MB.out.step b)
    have B := hide (Below.step B.out B.out.size b)
    have MG := hide cg
    clear b cg
    go_wp2_with fail
    refine (to_l MG.out.iw (by omega)).mono ?_
    rintro e w9 ⟨tv, rfl, -, ct, b⟩
    have U := hide (U.out.step b)
    have V := hide (V.out.step b)
    have X := hide (X.out.step b)
    have Y := hide (Y.out.step b)
    have CG := hide (CG.out.step b)
    have MB := hide (MB.out.step b)
    have B := hide (Below.step B.out B.out.size b)
    have T := hide ct
    clear b ct
    go_wp2_with fail
    refine (same_c CG.out T.out rfl).mono ?_
    rintro e w10 ⟨rfl, b⟩
    have U := hide (U.out.step b)
    have V := hide (V.out.step b)
    have X := hide (X.out.step b)
    have Y := hide (Y.out.step b)
    have MB := hide (MB.out.step b)
    have B := hide (Below.step B.out B.out.size b)
    clear b
    go_wp2_with fail
    go_ret
    exact ⟨rfl, B.out⟩
  · have HP := hide h0
    have h0n : y ≠ 0 := by omega
    clear h0
    go_enter Tryd.func3, Tryd.ntmps3
    go_wp2_with fail
    refine (speaks_true w).mono ?_
    rintro e w1 ⟨rfl, b⟩
    have U := hide (U.out.step b)
    have V := hide (V.out.step b)
    have B := hide b
    clear b
    go_wp2_with fail
    refine (copy_l U.out (by omega)).mono ?_
    rintro e w2 ⟨r1, rfl, -, c1, b⟩
    have U := hide (U.out.step b)
    have V := hide (V.out.step b)
    have B := hide (Below.step B.out B.out.size b)
    have X := hide c1
    clear b c1
    go_wp2_with fail
    refine (copy_l V.out (by omega)).mono ?_
    rintro e w3 ⟨r2, rfl, -, c2, b⟩
    have U := hide (U.out.step b)
    have V := hide (V.out.step b)
    have X := hide (X.out.step b)
    have B := hide (Below.step B.out B.out.size b)
    have Y := hide c2
    clear b c2
    have M := hide (Below.refl w3.heap.size w3)
    have BM := B
    have UM := U
    have VM := V
    have XM := X
    have YM := Y
    go_wp2_with fail
    refine (ndivmod (show Nw _ _ x 12 from by rw [← HX.out]; exact X.out.nw) (show Nw _ _ y 12 from by rw [← HY.out]; exact Y.out.nw) (by omega) HP.out).mono ?_
    rintro e w4 ⟨qv, rv, rfl, oq, orr, ap, cq, cr, b⟩
    have U := hide (U.out.step b)
    have V := hide (V.out.step b)
    have X := hide (X.out.step b)
    have Y := hide (Y.out.step b)
    have B := hide (Below.step B.out B.out.size b)
    have M := hide (Below.step M.out M.out.size b)
    have OQ := hide oq
    have OR := hide orr
    have CQ := hide cq
    have CR := hide cr
    clear b oq orr cq cr
    have AQ := hide (apart_of ap)
    clear ap
    have OQ1 := OQ
    have OR1 := OR
    have M0 := M
    go_wp2_with fail
    refine (gcd_c (show Nw _ _ x 12 from by rw [← HX.out]; exact X.out.nw) (show Nw _ _ y 12 from by rw [← HY.out]; exact Y.out.nw) (by omega)).mono ?_
    rintro e w5 ⟨gv, rfl, og, cg, b⟩
    have U := hide (U.out.step b)
    have V := hide (V.out.step b)
    have X := hide (X.out.step b)
    have Y := hide (Y.out.step b)
    have OQ := hide (OQ.out.step b)
    have OR := hide (OR.out.step b)
    have CQ := hide (CQ.out.step b)
    have CR := hide (CR.out.step b)
    have B := hide (Below.step B.out B.out.size b)
    have M := hide (Below.step M.out M.out.size b)
    have OG := hide og
    have CG := hide cg
    clear b og cg
    have A1 := hide (own_apart OQ1.out OG.out (Nat.le_refl _))
    have A2 := hide (own_apart OR1.out OG.out (Nat.le_refl _))
    have OG := hide (OG.out.mono M0.out.size)
    clear OQ1 OR1 M0
    go_wp2_with fail
    refine (of_l V.out (by omega)).mono ?_
    rintro e w6 ⟨mb, rfl, -, cb, b⟩
    have U := hide (U.out.step b)
    have V := hide (V.out.step b)
    have X := hide (X.out.step b)
    have Y := hide (Y.out.step b)
    have OQ := hide (OQ.out.step b)
    have OR := hide (OR.out.step b)
    have CQ := hide (CQ.out.step b)
    have CR := hide (CR.out.step b)
    have OG := hide (OG.out.step b)
    have CG := hide (CG.out.step b)
    have B := hide (Below.step B.out B.out.size b)
    have M := hide (Below.step M.out M.out.size b)
    clear b
    rw [HY.out] at cb
    obtain ⟨An, nn, cn_, rfl, -, hz⟩ := cb.form
    have tn := hz h0n
    have MB := hide cb
    clear cb hz
    go_wp2_with fail
    refine (of_l U.out (by omega)).mono ?_
    rintro e w7 ⟨ma, rfl, -, ca, b⟩
    have U := hide (U.out.step b)
    have V := hide (V.out.step b)
    have X := hide (X.out.step b)
    have Y := hide (Y.out.step b)
    have OQ := hide (OQ.out.step b)
    have OR := hide (OR.out.step b)
    have CQ := hide (CQ.out.step b)
    have CR := hide (CR.out.step b)
    have OG := hide (OG.out.step b)
    have CG := hide (CG.out.step b)
    have MB := hide (MB.out.step b)
    have B := hide (Below.step B.out B.out.size b)
    have M := hide (Below.step M.out M.out.size b)
    have MA := hide ca
    clear b ca
    go_wp2_with fail
    refine (igcd (x := x) (by rw [← HX.out]; exact MA.out.iw) MB.out.iw (by omega)).mono ?_
    rintro e w8 ⟨mg, rfl, -, cg, b⟩
    have U := hide (U.out.step b)
    have V := hide (V.out.step b)
    have X := hide (X.out.step b)
    have Y := hide (Y.out.step b)
    have OQ := hide (OQ.out.step b)
    have OR := hide (OR.out.step b)
    have CQ := hide (CQ.out.step b)
    have CR := hide (CR.out.step b)
    have OG := hide (OG.out.step b)
    have CG := hide (CG.out.step b)
    have MB := hide (MB.out.step b)
    have B := hide (Below.step B.out B.out.size b)
    have M := hide (Below.step M.out M.out.size b)
    have MG := hide cg
    clear b cg
    go_wp2_with fail
    refine (to_l MG.out.iw (by omega)).mono ?_
    rintro e w9 ⟨tv, rfl, -, ct, b⟩
    have U := hide (U.out.step b)
    have V := hide (V.out.step b)
    have X := hide (X.out.step b)
    have Y := hide (Y.out.step b)
    have OQ := hide (OQ.out.step b)
    have OR := hide (OR.out.step b)
    have CQ := hide (CQ.out.step b)
    have CR := hide (CR.out.step b)
    have OG := hide (OG.out.step b)
    have CG := hide (CG.out.step b)
    have MB := hide (MB.out.step b)
    have B := hide (Below.step B.out B.out.size b)
    have M := hide (Below.step M.out M.out.size b)
    have T := hide ct
    clear b ct
    go_wp2_with fail
    refine (same_c CG.out T.out rfl).mono ?_
    rintro e w10 ⟨rfl, b⟩
    have U := hide (U.out.step b)
    have V := hide (V.out.step b)
    have X := hide (X.out.step b)
    have Y := hide (Y.out.step b)
    have OQ := hide (OQ.out.step b)
    have OR := hide (OR.out.step b)
    have CQ := hide (CQ.out.step b)
    have CR := hide (CR.out.step b)
    have OG := hide (OG.out.step b)
    have MB := hide (MB.out.step b)
    have B := hide (Below.step B.out B.out.size b)
    have M := hide (Below.step M.out M.out.size b)
    clear b
    go_wp2_with fail
    refine (of_l U.out (by omega)).mono ?_
    rintro e w11 ⟨ma, rfl, -, ca, b⟩
    have U := hide (U.out.step b)
    have V := hide (V.out.step b)
    have X := hide (X.out.step b)
    have Y := hide (Y.out.step b)
    have OQ := hide (OQ.out.step b)
    have OR := hide (OR.out.step b)
    have CQ := hide (CQ.out.step b)
    have CR := hide (CR.out.step b)
    have OG := hide (OG.out.step b)
    have MB := hide (MB.out.step b)
    have B := hide (Below.step B.out B.out.size b)
    have M := hide (Below.step M.out M.out.size b)
    clear b
    rw [HX.out] at ca
    have MA := hide ca
    clear ca
    go_wp2_with fail
    refine (idivmod MA.out MB.out.iw HP.out (by omega) (by omega)).mono ?_
    rintro e w12 ⟨pv, sv, rfl, -, -, cp, cs, b⟩
    have U := hide (U.out.step b)
    have V := hide (V.out.step b)
    have X := hide (X.out.step b)
    have Y := hide (Y.out.step b)
    have OQ := hide (OQ.out.step b)
    have OR := hide (OR.out.step b)
    have CQ := hide (CQ.out.step b)
    have CR := hide (CR.out.step b)
    have OG := hide (OG.out.step b)
    have B := hide (Below.step B.out B.out.size b)
    have M := hide (Below.step M.out M.out.size b)
    have CP := hide cp
    have CS := hide cs
    clear b cp cs
    go_wp2_with fail
    refine (to_l CP.out.iw (by omega)).mono ?_
    rintro e w13 ⟨tv, rfl, -, ct, b⟩
    have U := hide (U.out.step b)
    have V := hide (V.out.step b)
    have X := hide (X.out.step b)
    have Y := hide (Y.out.step b)
    have OQ := hide (OQ.out.step b)
    have OR := hide (OR.out.step b)
    have CQ := hide (CQ.out.step b)
    have CR := hide (CR.out.step b)
    have OG := hide (OG.out.step b)
    have CS := hide (CS.out.step b)
    have B := hide (Below.step B.out B.out.size b)
    have M := hide (Below.step M.out M.out.size b)
    have T := hide ct
    clear b ct
    go_wp2_with fail
    refine (same_c CQ.out T.out rfl).mono ?_
    rintro e w14 ⟨rfl, b⟩
    have U := hide (U.out.step b)
    have V := hide (V.out.step b)
    have X := hide (X.out.step b)
    have Y := hide (Y.out.step b)
    have OQ := hide (OQ.out.step b)
    have OR := hide (OR.out.step b)
    have CR := hide (CR.out.step b)
    have OG := hide (OG.out.step b)
    have CS := hide (CS.out.step b)
    have B := hide (Below.step B.out B.out.size b)
    have M := hide (Below.step M.out M.out.size b)
    clear b
    go_wp2_with fail
    refine (to_l CS.out.iw (by omega)).mono ?_
    rintro e w15 ⟨tv, rfl, -, ct, b⟩
    have U := hide (U.out.step b)
    have V := hide (V.out.step b)
    have X := hide (X.out.step b)
    have Y := hide (Y.out.step b)
    have OQ := hide (OQ.out.step b)
    have OR := hide (OR.out.step b)
    have CR := hide (CR.out.step b)
    have OG := hide (OG.out.step b)
    have B := hide (Below.step B.out B.out.size b)
    have M := hide (Below.step M.out M.out.size b)
    have T := hide ct
    clear b ct
    go_wp2_with fail
    refine (same_c CR.out T.out rfl).mono ?_
    rintro e w16 ⟨rfl, b⟩
    have U := hide (U.out.step b)
    have V := hide (V.out.step b)
    have X := hide (X.out.step b)
    have Y := hide (Y.out.step b)
    have OQ := hide (OQ.out.step b)
    have OR := hide (OR.out.step b)
    have OG := hide (OG.out.step b)
    have B := hide (Below.step B.out B.out.size b)
    have M := hide (Below.step M.out M.out.size b)
    clear b
    go_wp2_with fail
    refine (spoil_b OQ.out).mono ?_
    rintro e w17 ⟨rfl, hg⟩
    have b := push_below M.out OQ.out hg M.out.size
    have OR := hide (OR.out.grown hg AQ.out)
    have OG := hide (OG.out.grown hg A1.out)
    have M := hide b
    clear hg b OQ
    go_wp2_with fail
    refine (spoil_b OR.out).mono ?_
    rintro e w18 ⟨rfl, hg⟩
    have b := push_below M.out OR.out hg M.out.size
    have OG := hide (OG.out.grown hg A2.out)
    have M := hide b
    clear hg b OR
    go_wp2_with fail
    refine (spoil_b OG.out).mono ?_
    rintro e w19 ⟨rfl, hg⟩
    have b := push_below M.out OG.out hg M.out.size
    have M := hide b
    clear hg b OG
    have b := M.out
    have B := hide (BM.out.trans (b.mono BM.out.size))
    have U := hide (UM.out.step b)
    have V := hide (VM.out.step b)
    have X := hide (XM.out.step b)
    have Y := hide (YM.out.step b)
    clear b
    go_wp2_with fail
    refine (same_l X.out U.out).mono ?_
    rintro e w20 ⟨rfl, b⟩
    have U := hide (U.out.step b)
    have V := hide (V.out.step b)
    have X := hide (X.out.step b)
    have Y := hide (Y.out.step b)
    have B := hide (Below.step B.out B.out.size b)
    clear b
    go_wp2_with fail
    refine (same_l Y.out V.out).mono ?_
    rintro e w21 ⟨rfl, b⟩
    have U := hide (U.out.step b)
    have V := hide (V.out.step b)
    have X := hide (X.out.step b)
    have Y := hide (Y.out.step b)
    have B := hide (Below.step B.out B.out.size b)
    clear b
    go_wp2_with fail
    go_ret
    exact ⟨rfl, B.out⟩
end Go.Proofs.YtkonakjchimniaaDoor
