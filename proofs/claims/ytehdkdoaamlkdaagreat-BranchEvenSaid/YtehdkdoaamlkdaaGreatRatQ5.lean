
/-
 The reference of fractions: Sign, times, Div; Words, Copy, great.
-/
import Derived.Test.YtehdkdoaamlkdaaGreatBundleG


namespace Go.Proofs.YtehdkdoaamlkdaaGreat
open Go.RowKit Go.Proofs.YtehdkdoaamlkdaaGreat.Num
set_option linter.unusedVariables false
set_option linter.unusedSimpArgs false
set_option maxRecDepth 100000
theorem Rf.split {w : World} {s : Bool} {A D : Option Addr} {n c m d : Nat} {r : Rat} {L : Nat} (h : Rf w (rv s (.slice A n c) (.slice D m d)) r L) : Qi w (zv s (.slice A n c)) r.num L ∧ Qi w (zv false (.slice D m d)) ((r.den : Nat) : Int) L := by
 obtain ⟨u, t, e, hu, ht⟩ := h
 injection e with e
 have e3 : s = decide (r.num < 0) ∧ Value.slice A n c = u ∧ Value.slice D m d = t := by simpa using e
 obtain ⟨rfl, rfl, rfl⟩ := e3
 refine ⟨⟨_, rfl, hu⟩, _, ?_, ht⟩
 rw [decide_eq_false (by omega)]
theorem qiden_ic {w : World} {t : Value} {q L : Nat} (h : Qi w (zv false t) ((q : Nat) : Int) L) : Ic w t q L := by
 obtain ⟨u, e, hu⟩ := h
 injection e with e
 have e2 : t = u := by have := congrArg (fun l : Array Value => l[1]?) e; simpa using this
 rw [e2]
 exact hu
theorem num_div (r : Rat) : (r.num : Rat) / ((r.den : Nat) : Rat) = r := by rw [← Rat.mkRat_eq_div, Rat.mkRat_self]
theorem den_ne (r : Rat) : ((r.den : Nat) : Rat) ≠ 0 := (not_congr Rat.natCast_eq_zero_iff).2 r.den_nz
theorem quot_num {a b : Rat} (hb : b ≠ 0) : ((a.num * ((b.den : Nat) : Int) : Int) : Rat) / ((b.num * ((a.den : Nat) : Int) : Int) : Rat) = a / b := by
 have h1 := num_div a
 have h2 := num_div b
 have h3 := den_ne a
 have h4 := den_ne b
 have h5 : (b.num : Rat) ≠ 0 := by
  intro h
  apply hb
  rw [← h2, h]
  grind
 rw [Rat.intCast_mul, Rat.intCast_mul, Rat.intCast_natCast, Rat.intCast_natCast]
 generalize (a.num : Rat) = p at *
 generalize (b.num : Rat) = q at *
 generalize ((a.den : Nat) : Rat) = s at *
 generalize ((b.den : Nat) : Rat) = t at *
 grind
theorem num_zero {r : Rat} (h : r ≠ 0) : r.num ≠ 0 := fun h2 => h (Rat.num_eq_zero.1 h2)
theorem fqbox1 (w : World) (s : Bool) (A : Option Addr) (n c : Nat) (D : Option Addr) (m d : Nat) :
  Below w.heap.size w (w.alloc (fqbox s (.slice A n c) (.slice D m d))) ∧ Fx (w.alloc (fqbox s (.slice A n c) (.slice D m d))) w.heap.size s A n c D m d := by
 refine ⟨(Below.refl _ _).alloc (Nat.le_refl _) _, ?_, ?_, ?_⟩ <;> go_simp
theorem qbox1 (w : World) (s : Bool) (A : Option Addr) (n c : Nat) :
  Below w.heap.size w (w.alloc (qbox s (.slice A n c))) ∧ Bx (w.alloc (qbox s (.slice A n c))) w.heap.size s A n c := by
 refine ⟨(Below.refl _ _).alloc (Nat.le_refl _) _, ⟨?_, ?_⟩⟩ <;> go_simp
set_option maxHeartbeats 2000000 in
theorem rqtimes_any {w : World} {v : Value} {D : Option Addr} {m d : Nat} {z q : Int} {L : Nat} (hv : Qi w v z L) (hu : Qi w (zv false (.slice D m d)) q L) (hL : L ≤ 400000000000) :
  Calls Tryz.prog 60 #[v, .slice D m d] w (QRet w (z * q) (L + L)) := by
 obtain ⟨s, x, A, n, c, rfl, -, -, -⟩ := id hv.parts
 obtain ⟨b1, p0, p1⟩ := qbox1 w s A n c
 have b2 : Below w.heap.size w ((w.alloc (qbox s (.slice A n c))).alloc qblk) := b1.alloc (by simp) _
 have z2 : Qb ((w.alloc (qbox s (.slice A n c))).alloc qblk) (w.heap.size + 1) := by have h := Qb.new (w.alloc (qbox s (.slice A n c))); simpa using h
 have MU := hide (qmul_any (hv.step b2) (hu.step b2) hL hL)
 have B := hide b2
 have Z := hide z2
 have HS := hide (show w.heap.size + 1 < ((w.alloc (qbox s (.slice A n c))).alloc qblk).heap.size by simp)
 have r0 := cell_keep p0 ((Below.refl _ _).alloc (Nat.le_refl _) qblk)
 have r1 := cell_keep p1 ((Below.refl _ _).alloc (Nat.le_refl _) qblk)
 clear hv hu b1 b2 z2 p0 p1
 go_enter Tryz.func60, Tryz.ntmps60
 go_wp2_with fail
 refine MU.out.mono ?_
 rintro e w1 ⟨v1, rfl, q1, bx⟩
 obtain ⟨sg, A1, n1, c1, rfl, k0, k1, f0, f1, fin⟩ := q_ret (w0 := w) q1 (Z.out.step HS.out bx) (by omega) (Below.step B.out B.out.size bx)
 have F := hide fin
 clear fin MU bx q1 B Z r0 r1
 go_wp2_with fail
 exact bodyPost_ret (qret rfl _ _ _ #[.bool sg, .slice A1 n1 c1] rfl rfl F.out.1) rfl F.out.2
theorem fq_world2 (w : World) (s t : Bool) (A D F H : Option Addr) (n c m d k f l h : Nat) :
  Below w.heap.size w (((w.alloc (fqbox s (.slice A n c) (.slice D m d))).alloc (fqbox t (.slice F k f) (.slice H l h))).alloc fqblk).drew ∧ Fb (((w.alloc (fqbox s (.slice A n c) (.slice D m d))).alloc (fqbox t (.slice F k f) (.slice H l h))).alloc fqblk).drew (w.heap.size + 1 + 1) ∧ Fx (((w.alloc (fqbox s (.slice A n c) (.slice D m d))).alloc (fqbox t (.slice F k f) (.slice H l h))).alloc fqblk).drew w.heap.size s A n c D m d ∧ Fx (((w.alloc (fqbox s (.slice A n c) (.slice D m d))).alloc (fqbox t (.slice F k f) (.slice H l h))).alloc fqblk).drew (w.heap.size + 1) t F k f H l h := by
 refine ⟨below_drewN ((((Below.refl _ _).alloc (Nat.le_refl _) _).alloc (by simp) _).alloc (by simp; omega) _) 1, ?_, ⟨?_, ?_, ?_⟩, ?_, ?_, ?_⟩
 ·have h9 := Fb.new ((w.alloc (fqbox s (.slice A n c) (.slice D m d))).alloc (fqbox t (.slice F k f) (.slice H l h)))
  have h2 : Fb (((w.alloc (fqbox s (.slice A n c) (.slice D m d))).alloc (fqbox t (.slice F k f) (.slice H l h))).alloc fqblk) (w.heap.size + 1 + 1) := by simpa using h9
  exact h2
 all_goals go_simp
set_option maxHeartbeats 4000000 in
theorem rqdiv_any {w : World} {a b : Value} {r1 r2 : Rat} {L : Nat} (ha : Rf w a r1 L) (hb : Rf w b r2 L) (h0 : r2 ≠ 0) (h1 : 1 ≤ L) (hL : L ≤ 10000000000) :
  Calls Tryz.prog 36 #[a, b] w (RfRet w (r1 / r2) (L + L)) := by
 obtain ⟨s, A, n, c, D, m, d, rfl, ha⟩ := ha.parts
 obtain ⟨t, F, k, f, H, l, h, rfl, hb⟩ := hb.parts
 obtain ⟨b2, hz, y1, y2⟩ := fq_world2 w s t A D F H n c m d k f l h
 have R := hide (And.intro (ha.split.1.step b2) (And.intro (ha.split.2.step b2) (And.intro (hb.split.1.step b2) (hb.split.2.step b2))))
 have P := hide (And.intro y1 y2)
 have B := hide b2
 have Z := hide hz
 have hg0 : w.heap.size ≠ w.heap.size + 1 + 1 := by omega
 have hg1 : w.heap.size + 1 ≠ w.heap.size + 1 + 1 := by omega
 clear ha hb y1 y2 b2 hz
 have HE := hide (quot_num (a := r1) h0)
 have HN : Hid (r2.num * ((r1.den : Nat) : Int) ≠ 0) := hide (Int.mul_ne_zero (num_zero h0) (by have := r1.den_nz; omega))
 clear h0
 generalize r1.num = a1 at *
 generalize ((r1.den : Nat) : Int) = b1 at *
 generalize r2.num = a2 at *
 generalize ((r2.den : Nat) : Int) = b2 at *
 go_enter Tryz.func36, Tryz.ntmps36
 go_wp2_with fail
 generalize hW0 : (((w.alloc (fqbox s (.slice A n c) (.slice D m d))).alloc (fqbox t (.slice F k f) (.slice H l h))).alloc fqblk) = W0 at *
 go_region_held3 (fun W => (W.cell? ⟨w.heap.size, 0, none⟩ = some (.bool s) ∧ W.cell? ⟨w.heap.size, 1, none⟩ = some (.slice A n c) ∧ W.cell? ⟨w.heap.size, 2, none⟩ = some (.slice D m d)) ∧ (W.cell? ⟨w.heap.size + 1, 0, none⟩ = some (.bool t) ∧ W.cell? ⟨w.heap.size + 1, 1, none⟩ = some (.slice F k f) ∧ W.cell? ⟨w.heap.size + 1, 2, none⟩ = some (.slice H l h)))
  (first | exact P.out | exact ⟨⟨cell_rset P.out.1.1 hg0 _ _ _, cell_rset P.out.1.2.1 hg0 _ _ _, cell_rset P.out.1.2.2 hg0 _ _ _⟩, cell_rset P.out.2.1 hg1 _ _ _, cell_rset P.out.2.2.1 hg1 _ _ _, cell_rset P.out.2.2.2 hg1 _ _ _⟩)
  (first
   | (go_at_call 60; refine Calls.mono (rqtimes_any (z := a1) (q := b2) (L := L) ?_ ?_ (by omega)) ?_; (focus ((with_reducible exact R.out.1); done)); (focus ((with_reducible exact R.out.2.2.2); done)); rintro e wx ⟨vx, rfl, tx, bx⟩; replace P := hide (And.intro (P.out.1.step bx) (P.out.2.step bx)); replace R := hide (And.intro (R.out.1.step bx) (And.intro (R.out.2.1.step bx) (And.intro (R.out.2.2.1.step bx) (R.out.2.2.2.step bx)))); replace Z := hide (Z.out.step bx); replace B := hide (Below.step B.out B.out.size bx))
   | (go_at_call 60; refine Calls.mono (rqtimes_any (z := a2) (q := b1) (L := L) ?_ ?_ (by omega)) ?_; (focus ((with_reducible exact R.out.2.2.1); done)); (focus ((with_reducible exact R.out.2.1); done)); rintro e wx ⟨vx, rfl, tx, bx⟩; replace P := hide (And.intro (P.out.1.step bx) (P.out.2.step bx)); replace R := hide (And.intro (R.out.1.step bx) (And.intro (R.out.2.1.step bx) (And.intro (R.out.2.2.1.step bx) (R.out.2.2.2.step bx)))); replace Z := hide (Z.out.step bx); replace B := hide (Below.step B.out B.out.size bx))
   | (go_at_call 62; refine Calls.mono (rmake_any (a := a1 * b2) (b := a2 * b1) (L := L + L) ?_ ?_ HN.out (by omega) (by omega)) ?_; (focus ((repeat (first | (with_reducible assumption) | (with_reducible refine Qi.step ?_ (by with_reducible assumption)))); done)); (focus ((repeat (first | (with_reducible assumption) | (with_reducible refine Qi.step ?_ (by with_reducible assumption)))); done)); rintro e wx ⟨vx, rfl, tx, bx⟩; obtain ⟨sg, A9, n9, c9, D9, m9, d9, rfl, tx⟩ := tx.parts; obtain ⟨k0, k1, k2, f0, f1, f2, fin⟩ := rf_put (w0 := w) tx (Z.out.step bx) (by omega) (Below.step B.out B.out.size bx); replace P := hide (And.intro (P.out.1.step bx) (P.out.2.step bx))))
 all_goals
  have F9 := hide fin
  clear fin
  go_wp2_with fail
  exact bodyPost_ret (rfret rfl _ _ _ #[.bool sg, .slice A9 n9 c9, .slice D9 m9 d9] rfl rfl F9.out.1) rfl (by rw [← HE.out]; exact F9.out.2)
set_option maxHeartbeats 2000000 in
theorem rwords_any {w : World} {s : Bool} {A D : Option Addr} {n c m d : Nat} (hn : n ≤ 17592186044000) (hm : m ≤ 17592186044000) :
  Calls Tryz.prog 11 #[rv s (.slice A n c) (.slice D m d)] w fun e w' => e = .returned (.int .i64 ((n + m : Nat) : Int)) ∧ Below w.heap.size w w' := by
 obtain ⟨b1, p0, p1, p2⟩ := fbox1 w s A n c D m d
 have hw : IntKind.i64.wrap ((n : Int) + (m : Int)) = ((n + m : Nat) : Int) := by rw [IntWalk.i64_in _ (by omega)]; omega
 have B := hide b1
 clear b1
 go_enter Tryz.func11, Tryz.ntmps11
 go_wp2_with fail
 go_ret
 exact ⟨by first | rw [hw] | rfl, B.out⟩
end Go.Proofs.YtehdkdoaamlkdaaGreat
