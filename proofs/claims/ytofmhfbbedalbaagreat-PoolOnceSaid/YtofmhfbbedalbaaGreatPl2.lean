
/-
 pool.distance; quotients as records.
-/
import Derived.Test.YtofmhfbbedalbaaGreatPl1
import Derived.Test.YtofmhfbbedalbaaGreatRownN


namespace Go.Proofs.YtofmhfbbedalbaaGreat
open Go.RowKit Go.Proofs.YtofmhfbbedalbaaGreat.Num
set_option linter.unusedVariables false
set_option linter.unusedSimpArgs false
set_option maxRecDepth 100000
theorem neg_gP {w : World} {x : Rx} {r : Rat} {L : Nat} (ha : Ra w (rx x) r L) (h1 : 1 ≤ L) (hL : L ≤ 1000000000000) :
  Calls Tryz.prog 62 #[rx x] w (RgRet w (-r) L) := by
 obtain ⟨s, u, t, p, q, e, h2, h3, hr⟩ := id ha
 injection e with e
 have e3 := congrArg Array.toList e
 simp at e3
 obtain ⟨e4, e5, e6⟩ := e3
 have k := rneg_o (s := x.s) (x := p) (y := q) (show Nw w (.slice x.u.1 x.u.2.1 x.u.2.2) p L from by rw [← e5] at h2; exact h2) (show Nw w (.slice x.t.1 x.t.2.1 x.t.2.2) q L from by rw [← e6] at h3; exact h3) h1 (by omega)
 have hq : mkRat (-zi x.s p) (dn q) = -r := by
  rw [hr, e4]
  exact (Rat.neg_mkRat _ _).symm
 rw [hq] at k
 exact k.mono fun e w' h => h.rg h1
theorem div_x {w : World} {a b : Value} {r1 r2 : Rat} {L : Nat} (ha : Ra w a r1 L) (hb : Ra w b r2 L) (h0 : r2 ≠ 0) (h1 : 1 ≤ L) (hL : L ≤ 1000000000000) :
  Calls Tryz.prog 30 #[a, b] w fun e w' => ∃ x : Rx, e = .returned (.tuple #[rx x, .int .i64 0]) ∧ x.r = r1 / r2 ∧ Rc w' (rx x) x.r (2 * L) ∧ Below w.heap.size w w' := by
 refine (div_r ha hb h0 h1 (by omega)).mono fun e w' h => ?_
 obtain ⟨v, rfl, hc, hb⟩ := h
 obtain ⟨u, t, rfl, ⟨A, c, rfl, g1⟩, ⟨D, d, rfl, g2⟩⟩ := id hc
 exact ⟨⟨_, (A, _, c), (D, _, d), r1 / r2⟩, rfl, rfl, hc, hb⟩
set_option maxHeartbeats 4000000 in
theorem pdist_c {w : World} {x : Rx} {r : Rat} {L : Nat} (ha : Ra w (rx x) r L) (h1 : 1 ≤ L) (hL : L ≤ 1000000) :
  Calls Tryz.prog 32 #[rx x] w fun e w' => ∃ y : Rx, e = .returned (rx y) ∧ Ra w' (rx y) (rdist r) L ∧ Below w.heap.size w w' := by
 have b2 : Below w.heap.size w ((w.alloc (rbox x.s (sv x.u) (sv x.t))).alloc rblk) := ((Below.refl _ _).alloc (Nat.le_refl _) _).alloc (by simp) _
 have P := hide (show Bq ((w.alloc (rbox x.s (sv x.u) (sv x.t))).alloc rblk) w.heap.size x.s (sv x.u) (sv x.t) from (Bq.new w _ _ _).step ((Below.refl _ _).alloc (Nat.le_refl _) rblk))
 have Z := hide (show Rb ((w.alloc (rbox x.s (sv x.u) (sv x.t))).alloc rblk) (w.heap.size + 1) by
  have h := Rb.new (w.alloc (rbox x.s (sv x.u) (sv x.t)))
  have h2 : Rb ((w.alloc (rbox x.s (sv x.u) (sv x.t))).alloc rblk) (w.heap.size + 1) := by simpa using h
  exact h2)
 have H := hide (ha.step b2)
 have B := hide b2
 clear ha b2
 obtain ⟨p0, p1, p2, -⟩ := P.out.all
 go_enter Tryz.func32, Tryz.ntmps32
 go_wp2_with fail
 generalize ((w.alloc (rbox x.s (sv x.u) (sv x.t))).alloc rblk) = w0 at *
 refine (sign_r (L := L) H.out (by omega)).mono ?_
 rintro e w1 ⟨rfl, bx⟩
 replace P := hide (P.out.step bx)
 replace Z := hide (Z.out.step bx)
 replace H := hide (H.out.step bx)
 replace B := hide (Below.step B.out B.out.size bx)
 clear bx p0 p1 p2
 obtain ⟨p0, p1, p2, -⟩ := P.out.all
 by_cases hr : r < 0
 ·obtain ⟨z, hz, hz0⟩ : ∃ z, z = cmpR r 0 ∧ z < 0 := ⟨_, rfl, by rw [cmpR_lt hr]; omega⟩
  rw [← hz]
  have t1 : decide (z < 0) = true := decide_eq_true hz0
  have E := hide (show rdist r = -r by unfold rdist; rw [if_pos hr])
  clear hz hz0 hr
  go_wp2_with fail
  refine (neg_gP (L := L) H.out h1 (by omega)).mono ?_
  rintro e w2 ⟨y, rfl, hy, ry, bx⟩
  obtain ⟨⟨k0, k1, k2, f0, f1, f2⟩, fin⟩ := rg_put (w0 := w) (ry.mono (B' := w.heap.size) B.out.size) (Z.out.step bx) (by omega) (Below.step B.out B.out.size bx)
  have F := hide fin
  have HY := hide hy
  clear fin bx ry hy p0 p1 p2
  go_wp2_with fail
  refine bodyPost_ret (rret rfl _ _ _ #[.bool y.s, sv y.u, sv y.t] rfl rfl F.out.1) rfl ?_
  obtain ⟨y', e, h3, h4, h5⟩ := F.out.2
  exact ⟨y', e, by rw [E.out, ← HY.out, ← h3]; exact h4.ra, h5⟩
 ·obtain ⟨z, hz, hz0⟩ : ∃ z, z = cmpR r 0 ∧ ¬ z < 0 := ⟨_, rfl, by unfold cmpR; rw [if_neg hr]; split <;> omega⟩
  rw [← hz]
  have t1 : decide (z < 0) = false := decide_eq_false hz0
  have E := hide (show rdist r = r by unfold rdist; rw [if_neg hr])
  have F := hide (Z.out.set (.bool x.s) (sv x.u) (sv x.t))
  have H2 := hide (H.out.grownU (only_put3 w1 (w.heap.size + 1) (.bool x.s) (sv x.u) (sv x.t)) Z.out.nu)
  have B2 := hide (below_put3 B.out (Nat.le_succ w.heap.size) (.bool x.s) (sv x.u) (sv x.t))
  have k0 := Z.out.c0
  have k1 := Z.out.c1
  have k2 := Z.out.c2
  have f0 := Z.out.fz 0
  have f1 := Z.out.fz 1
  have f2 := Z.out.fz 2
  clear hz hz0 hr
  go_wp2_with fail
  exact bodyPost_ret (rret rfl _ _ _ #[.bool x.s, sv x.u, sv x.t] rfl rfl F.out) rfl ⟨x, rfl, by rw [E.out]; exact H2.out, B2.out⟩
end Go.Proofs.YtofmhfbbedalbaaGreat
