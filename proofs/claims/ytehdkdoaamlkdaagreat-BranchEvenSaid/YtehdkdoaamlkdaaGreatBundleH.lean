/-
  Shared texts, one behind the other: ZrefG, RatM, RatQ6, Pk, Spw, Vref1, Vref2, Vref3, Vref4, Vcpy, Vcpy2, Vspl.
-/
import Derived.Test.YtehdkdoaamlkdaaGreatLatC
import Derived.Test.YtehdkdoaamlkdaaGreatBundleE
import Derived.Test.YtehdkdoaamlkdaaGreatBundleG
import Derived.Test.YtehdkdoaamlkdaaGreatRatQ5
import Derived.Test.YtehdkdoaamlkdaaGreatTm
import Derived.Test.YtehdkdoaamlkdaaGreatTv
import Derived.Test.YtehdkdoaamlkdaaGreatBundleO

namespace Go.Proofs.YtehdkdoaamlkdaaGreat
open Go.RowKit Go.Proofs.YtehdkdoaamlkdaaGreat.Num
set_option linter.unusedVariables false
set_option linter.unusedSimpArgs false
set_option maxRecDepth 100000
theorem flo_eq {r : Rat} {z : Int} (h1 : (z : Rat) ≤ r) (h2 : r < (z : Rat) + 1) : r.floor = z := by
 have a : z ≤ r.floor := Rat.le_floor_iff.2 h1
 have b : r.floor < z + 1 := Rat.floor_lt_iff.2 (by rw [Rat.intCast_add]; exact h2)
 omega
theorem add_num (a b : Rat) : mkRat (a.num * ((b.den : Nat) : Int) + b.num * ((a.den : Nat) : Int)) (a.den * b.den) = a + b := by
 have h := Rat.mkRat_add_mkRat a.num b.num a.den_nz b.den_nz
 rw [Rat.mkRat_self, Rat.mkRat_self] at h
 exact h.symm
theorem den_one (r : Rat) : r.den = 1 ↔ (r.floor : Rat) = r := by
 constructor
 ·intro h
  have h1 := num_div r
  rw [h] at h1
  have h2 : (r.num : Rat) = r := by rw [← h1]; grind
  have h3 : r.floor = r.num := flo_eq (by rw [h2]; grind) (by rw [h2]; grind)
  rw [h3, h2]
 ·intro h
  rw [← h]
  rfl
theorem lowest_q {w : World} {v t : Value} {z : Int} {y L : Nat} (hv : Qi w v z L) (ht : Ic w t y L) (hy : 0 < y) (h1 : 1 ≤ L) (hL : L ≤ 100000000000) :
  Calls Tryz.prog 27 #[v, t] w (RfRet w (mkRat z y) L) := by
 obtain ⟨u, rfl, hu⟩ := hv
 have h := lowest_any (s := decide (z < 0)) hu ht hy h1 hL
 rw [zi_num] at h
 exact h
theorem rf_neg {w : World} {sg : Bool} {u t : Value} {r : Rat} {L : Nat} (hu : Qi w (zv sg u) (-r.num) L) (ht : Ic w t r.den L) : Rf w (rv sg u t) (-r) L := by
 obtain ⟨u', e, hi⟩ := hu
 injection e with e
 have e2 : sg = decide (-r.num < 0) ∧ u = u' := by simpa using e
 obtain ⟨rfl, rfl⟩ := e2
 exact ⟨u, t, by rw [Rat.neg_num], by rw [Rat.neg_num]; exact hi, by rw [Rat.neg_den]; exact ht⟩
theorem fq_world1f (w : World) (s : Bool) (A D : Option Addr) (n c m d : Nat) :
  Below w.heap.size w ((w.alloc (fqbox s (.slice A n c) (.slice D m d))).alloc fqblk).drew ∧ Fb ((w.alloc (fqbox s (.slice A n c) (.slice D m d))).alloc fqblk).drew (w.heap.size + 1) ∧ Fx ((w.alloc (fqbox s (.slice A n c) (.slice D m d))).alloc fqblk).drew w.heap.size s A n c D m d := by
 refine ⟨below_drewN (((Below.refl _ _).alloc (Nat.le_refl _) _).alloc (by simp) _) 1, ?_, ?_, ?_, ?_⟩
 ·have h := Fb.new (w.alloc (fqbox s (.slice A n c) (.slice D m d)))
  have h2 : Fb ((w.alloc (fqbox s (.slice A n c) (.slice D m d))).alloc fqblk) (w.heap.size + 1) := by simpa using h
  exact h2
 all_goals go_simp
set_option maxHeartbeats 4000000 in
theorem rqneg_any {w : World} {a : Value} {r : Rat} {L : Nat} (ha : Rf w a r L) (hL : L ≤ 800000000000) :
  Calls Tryz.prog 32 #[a] w (RfRet w (-r) L) := by
 obtain ⟨s, A, n, c, D, m, d, rfl, ha⟩ := ha.parts
 obtain ⟨b2, hz, y1⟩ := fq_world1f w s A D n c m d
 have QA := hide (ha.split.1.step b2)
 have QD := hide ((qiden_ic ha.split.2).step b2)
 have P := hide y1
 have B := hide b2
 have Z := hide hz
 have hg0 : w.heap.size ≠ w.heap.size + 1 := by omega
 clear ha y1 b2 hz
 go_enter Tryz.func32, Tryz.ntmps32
 go_wp2_with fail
 generalize hW0 : ((w.alloc (fqbox s (.slice A n c) (.slice D m d))).alloc fqblk) = W0 at *
 go_region_held3 (fun W => (W.cell? ⟨w.heap.size, 0, none⟩ = some (.bool s) ∧ W.cell? ⟨w.heap.size, 1, none⟩ = some (.slice A n c) ∧ W.cell? ⟨w.heap.size, 2, none⟩ = some (.slice D m d)))
  (first | exact P.out | exact ⟨cell_rset P.out.1 hg0 _ _ _, cell_rset P.out.2.1 hg0 _ _ _, cell_rset P.out.2.2 hg0 _ _ _⟩)
  (first
   | (go_at_call 61; refine Calls.mono (qneg_any QA.out hL) ?_; rintro e wx ⟨v1, rfl, q1, bx⟩; obtain ⟨s1, x1, A1, n1, c1, rfl, -, -, -⟩ := id q1.parts; replace P := hide (P.out.step bx); obtain ⟨k0, k1, k2, f0, f1, f2, fin⟩ := rf_put (w0 := w) (rf_neg q1 (QD.out.step bx)) (Z.out.step bx) (by omega) (Below.step B.out B.out.size bx)))
 all_goals
  have F9 := hide fin
  clear fin
  go_wp2_with fail
  exact bodyPost_ret (rfret rfl _ _ _ #[.bool s1, .slice A1 n1 c1, .slice D m d] rfl rfl F9.out.1) rfl F9.out.2
theorem iw_lit1 (w : World) : Iw (w.alloc (.cells #[.int .i64 1] 3)) (.slice (some ⟨w.heap.size, 0, none⟩) 1 1) 1 1 := (ic_one w (Nat.le_refl 1)).iw
theorem cmpN_one (x : Nat) : (cmpN x 1 == 0) = decide (x = 1) := by
 unfold cmpN
 rcases Nat.lt_trichotomy x 1 with h | h | h
 ·rw [if_pos h, decide_eq_false (by omega)]; rfl
 ·subst h; rfl
 ·rw [if_neg (by omega), if_pos h, decide_eq_false (by omega)]; rfl
set_option maxHeartbeats 4000000 in
theorem rqwhole_any {w : World} {a : Value} {r : Rat} {L : Nat} (ha : Rf w a r L) (hL : L ≤ 10000000000) :
  Calls Tryz.prog 9 #[a] w fun e w' => e = .returned (.bool (decide ((r.floor : Rat) = r))) ∧ Below w.heap.size w w' := by
 obtain ⟨s, A, n, c, D, m, d, rfl, ha⟩ := ha.parts
 obtain ⟨b1, p0, p1, p2⟩ := fqbox1 w s A n c D m d
 have b2 : Below w.heap.size w ((w.alloc (fqbox s (.slice A n c) (.slice D m d))).alloc (.cells #[.int .i64 1] 3)) := b1.alloc (by simp) _
 have hc := icmp ((qiden_ic ha.split.2).step b2).iw (iw_lit1 (w.alloc (fqbox s (.slice A n c) (.slice D m d)))) (by omega) (by omega)
 simp only [World.size_alloc] at hc
 obtain ⟨o, ho⟩ : ∃ o, cmpN r.den 1 = o := ⟨_, rfl⟩
 have h1 := cmpN_one r.den
 rw [ho] at hc h1
 have hr : decide ((r.floor : Rat) = r) = (o == 0) := by rw [h1]; exact (decide_eq_decide.2 (den_one r)).symm
 rw [hr]
 have CM := hide hc
 have B := hide b2
 clear ha b1 b2 hc ho h1 hr
 go_enter Tryz.func9, Tryz.ntmps9
 go_wp2_with fail
 refine CM.out.mono ?_
 rintro e w3 ⟨rfl, rfl⟩
 clear CM p0 p1 p2
 go_wp2_with fail
 go_ret
 exact ⟨rfl, B.out⟩
set_option maxHeartbeats 8000000 in
theorem rqadd_any {w : World} {a b : Value} {r1 r2 : Rat} {L : Nat} (ha : Rf w a r1 L) (hb : Rf w b r2 L) (h1 : 1 ≤ L) (hL : L ≤ 10000000000) :
  Calls Tryz.prog 31 #[a, b] w (RfRet w (r1 + r2) (L + L + 1)) := by
 obtain ⟨s, A, n, c, D, m, d, rfl, ha⟩ := ha.parts
 obtain ⟨t, F, k, f, H, l, h, rfl, hb⟩ := hb.parts
 obtain ⟨b2, hz, y1, y2⟩ := fq_world2 w s t A D F H n c m d k f l h
 have R := hide (And.intro (ha.split.1.step b2) (And.intro (ha.split.2.step b2) (And.intro (hb.split.1.step b2) (hb.split.2.step b2))))
 have P := hide (And.intro y1 y2)
 have B := hide b2
 have Z := hide hz
 have hg0 : w.heap.size ≠ w.heap.size + 1 + 1 := by omega
 have hg1 : w.heap.size + 1 ≠ w.heap.size + 1 + 1 := by omega
 clear ha hb y1 y2 b2 hz
 have HE := hide (add_num r1 r2)
 have HP := hide (Nat.mul_pos (Nat.pos_of_ne_zero r1.den_nz) (Nat.pos_of_ne_zero r2.den_nz))
 generalize r1.num = a1 at *
 generalize r1.den = e1 at *
 generalize r2.num = a2 at *
 generalize r2.den = e2 at *
 go_enter Tryz.func31, Tryz.ntmps31
 go_wp2_with fail
 generalize hW0 : (((w.alloc (fqbox s (.slice A n c) (.slice D m d))).alloc (fqbox t (.slice F k f) (.slice H l h))).alloc fqblk) = W0 at *
 go_region_held3 (fun W => (W.cell? ⟨w.heap.size, 0, none⟩ = some (.bool s) ∧ W.cell? ⟨w.heap.size, 1, none⟩ = some (.slice A n c) ∧ W.cell? ⟨w.heap.size, 2, none⟩ = some (.slice D m d)) ∧ (W.cell? ⟨w.heap.size + 1, 0, none⟩ = some (.bool t) ∧ W.cell? ⟨w.heap.size + 1, 1, none⟩ = some (.slice F k f) ∧ W.cell? ⟨w.heap.size + 1, 2, none⟩ = some (.slice H l h)))
  (first | exact P.out | exact ⟨⟨cell_rset P.out.1.1 hg0 _ _ _, cell_rset P.out.1.2.1 hg0 _ _ _, cell_rset P.out.1.2.2 hg0 _ _ _⟩, cell_rset P.out.2.1 hg1 _ _ _, cell_rset P.out.2.2.1 hg1 _ _ _, cell_rset P.out.2.2.2 hg1 _ _ _⟩)
  (first
   | (go_at_call 60; refine Calls.mono (rqtimes_any (z := a1) (q := ((e2 : Nat) : Int)) (L := L) ?_ ?_ (by omega)) ?_; (focus ((with_reducible exact R.out.1); done)); (focus ((with_reducible exact R.out.2.2.2); done)); rintro e wx ⟨vx, rfl, tx, bx⟩; replace P := hide (And.intro (P.out.1.step bx) (P.out.2.step bx)); replace R := hide (And.intro (R.out.1.step bx) (And.intro (R.out.2.1.step bx) (And.intro (R.out.2.2.1.step bx) (R.out.2.2.2.step bx)))); replace Z := hide (Z.out.step bx); replace B := hide (Below.step B.out B.out.size bx))
   | (go_at_call 60; refine Calls.mono (rqtimes_any (z := a2) (q := ((e1 : Nat) : Int)) (L := L) ?_ ?_ (by omega)) ?_; (focus ((with_reducible exact R.out.2.2.1); done)); (focus ((with_reducible exact R.out.2.1); done)); rintro e wx ⟨vx, rfl, tx, bx⟩; replace P := hide (And.intro (P.out.1.step bx) (P.out.2.step bx)); replace R := hide (And.intro (R.out.1.step bx) (And.intro (R.out.2.1.step bx) (And.intro (R.out.2.2.1.step bx) (R.out.2.2.2.step bx)))); replace Z := hide (Z.out.step bx); replace B := hide (Below.step B.out B.out.size bx))
   | (go_at_call 59; refine Calls.mono (qadd_any (a := a1 * ((e2 : Nat) : Int)) (b := a2 * ((e1 : Nat) : Int)) (L := L + L) (M := L + L) (K := L + L) ?_ ?_ (by omega) (by omega) (by omega)) ?_; (focus ((repeat (first | (with_reducible assumption) | (with_reducible refine Qi.step ?_ (by with_reducible assumption)))); done)); (focus ((repeat (first | (with_reducible assumption) | (with_reducible refine Qi.step ?_ (by with_reducible assumption)))); done)); rintro e wx ⟨vx, rfl, tx, bx⟩; replace P := hide (And.intro (P.out.1.step bx) (P.out.2.step bx)); replace R := hide (And.intro (R.out.1.step bx) (And.intro (R.out.2.1.step bx) (And.intro (R.out.2.2.1.step bx) (R.out.2.2.2.step bx)))); replace Z := hide (Z.out.step bx); replace B := hide (Below.step B.out B.out.size bx))
   | (go_at_call 53; refine Calls.mono (imul (L := L) (M := L) (qiden_ic R.out.2.1).iw (qiden_ic R.out.2.2.2).iw (by omega) (by omega)) ?_; rintro e wx ⟨vy, rfl, -, iy, bx⟩; replace P := hide (And.intro (P.out.1.step bx) (P.out.2.step bx)); replace R := hide (And.intro (R.out.1.step bx) (And.intro (R.out.2.1.step bx) (And.intro (R.out.2.2.1.step bx) (R.out.2.2.2.step bx)))); replace Z := hide (Z.out.step bx); replace B := hide (Below.step B.out B.out.size bx))
   | (go_at_call 27; refine Calls.mono (lowest_q (z := a1 * ((e2 : Nat) : Int) + a2 * ((e1 : Nat) : Int)) (y := e1 * e2) (L := L + L + 1) ?_ (iy.more (by omega)) HP.out (by omega) (by omega)) ?_; (focus ((repeat (first | (with_reducible assumption) | (with_reducible refine Qi.step ?_ (by with_reducible assumption)))); done)); rintro e wx ⟨vx, rfl, tx, bx⟩; obtain ⟨sg, A9, n9, c9, D9, m9, d9, rfl, tx⟩ := tx.parts; obtain ⟨k0, k1, k2, f0, f1, f2, fin⟩ := rf_put (w0 := w) tx (Z.out.step bx) (by omega) (Below.step B.out B.out.size bx); replace P := hide (And.intro (P.out.1.step bx) (P.out.2.step bx))))
 all_goals
  have F9 := hide fin
  clear fin
  go_wp2_with fail
  exact bodyPost_ret (rfret rfl _ _ _ #[.bool sg, .slice A9 n9 c9, .slice D9 m9 d9] rfl rfl F9.out.1) rfl (by rw [← HE.out]; exact F9.out.2)
set_option maxHeartbeats 8000000 in
theorem rqsub_any {w : World} {a b : Value} {r1 r2 : Rat} {L : Nat} (ha : Rf w a r1 L) (hb : Rf w b r2 L) (h1 : 1 ≤ L) (hL : L ≤ 10000000000) :
  Calls Tryz.prog 13 #[a, b] w (RfRet w (r1 - r2) (L + L + 1)) := by
 obtain ⟨s, A, n, c, D, m, d, rfl, ha⟩ := ha.parts
 obtain ⟨t, F, k, f, H, l, h, rfl, hb⟩ := hb.parts
 obtain ⟨b2, hz, y1, y2⟩ := fq_world2 w s t A D F H n c m d k f l h
 have R := hide (And.intro (ha.step b2) (hb.step b2))
 have P := hide (And.intro y1 y2)
 have B := hide b2
 have Z := hide hz
 have hg0 : w.heap.size ≠ w.heap.size + 1 + 1 := by omega
 have hg1 : w.heap.size + 1 ≠ w.heap.size + 1 + 1 := by omega
 clear ha hb y1 y2 b2 hz
 have HE : Hid (r1 + -r2 = r1 - r2) := hide (by grind)
 go_enter Tryz.func13, Tryz.ntmps13
 go_wp2_with fail
 generalize hW0 : (((w.alloc (fqbox s (.slice A n c) (.slice D m d))).alloc (fqbox t (.slice F k f) (.slice H l h))).alloc fqblk) = W0 at *
 go_region_held3 (fun W => (W.cell? ⟨w.heap.size, 0, none⟩ = some (.bool s) ∧ W.cell? ⟨w.heap.size, 1, none⟩ = some (.slice A n c) ∧ W.cell? ⟨w.heap.size, 2, none⟩ = some (.slice D m d)) ∧ (W.cell? ⟨w.heap.size + 1, 0, none⟩ = some (.bool t) ∧ W.cell? ⟨w.heap.size + 1, 1, none⟩ = some (.slice F k f) ∧ W.cell? ⟨w.heap.size + 1, 2, none⟩ = some (.slice H l h)))
  (first | exact P.out | exact ⟨⟨cell_rset P.out.1.1 hg0 _ _ _, cell_rset P.out.1.2.1 hg0 _ _ _, cell_rset P.out.1.2.2 hg0 _ _ _⟩, cell_rset P.out.2.1 hg1 _ _ _, cell_rset P.out.2.2.1 hg1 _ _ _, cell_rset P.out.2.2.2 hg1 _ _ _⟩)
  (first
   | (go_at_call 32; refine Calls.mono (rqneg_any (L := L) R.out.2 (by omega)) ?_; rintro e wx ⟨vx, rfl, tx, bx⟩; replace P := hide (And.intro (P.out.1.step bx) (P.out.2.step bx)); replace R := hide (And.intro (R.out.1.step bx) (R.out.2.step bx)); replace Z := hide (Z.out.step bx); replace B := hide (Below.step B.out B.out.size bx))
   | (go_at_call 31; refine Calls.mono (rqadd_any (r1 := r1) (r2 := -r2) (L := L) R.out.1 tx (by omega) (by omega)) ?_; rintro e wx ⟨vx, rfl, tx, bx⟩; obtain ⟨sg, A9, n9, c9, D9, m9, d9, rfl, tx⟩ := tx.parts; obtain ⟨k0, k1, k2, f0, f1, f2, fin⟩ := rf_put (w0 := w) tx (Z.out.step bx) (by omega) (Below.step B.out B.out.size bx); replace P := hide (And.intro (P.out.1.step bx) (P.out.2.step bx))))
 all_goals
  have F9 := hide fin
  clear fin
  go_wp2_with fail
  exact bodyPost_ret (rfret rfl _ _ _ #[.bool sg, .slice A9 n9 c9, .slice D9 m9 d9] rfl rfl F9.out.1) rfl (by rw [← HE.out]; exact F9.out.2)
end Go.Proofs.YtehdkdoaamlkdaaGreat

namespace Go.Proofs.YtehdkdoaamlkdaaGreat.Num
abbrev Up (l : List Nat) : Prop := l.Pairwise (· < ·)
def Pl (ts : List Tm) (ps : List Nat) : Prop := Up ps ∧ (∀ y : Nat, y ∈ ps ↔ ∃ t ∈ ts, t.1 = (y : Int)) ∧ ps.length ≤ ts.length
end Go.Proofs.YtehdkdoaamlkdaaGreat.Num


namespace Go.Proofs.YtehdkdoaamlkdaaGreat
open Go.RowKit Go.Proofs.YtehdkdoaamlkdaaGreat.Num
set_option linter.unusedVariables false
set_option linter.unusedSimpArgs false
set_option maxRecDepth 100000
def Spw (B : Nat) (w w' : World) : Prop := Below B w w' ∧ w.heap.size ≤ w'.heap.size ∧ ∀ b j, b < w.heap.size → w'.frozen? ⟨b, j, none⟩ = w.frozen? ⟨b, j, none⟩ ∧
 (w'.cell? ⟨b, j, none⟩ = w.cell? ⟨b, j, none⟩ ∨ ((∃ z : Int, w.cell? ⟨b, j, none⟩ = some (.int .u64 z)) ∧ ∃ z : Int, w'.cell? ⟨b, j, none⟩ = some (.int .u64 z))) ∧
 ∀ cs T fz, w.heap[b]? = some (.cells cs T fz) → ∃ cs', w'.heap[b]? = some (.cells cs' T fz) ∧ (T ≠ 94 → cs' = cs)
theorem ten_two : 2 ≤ 10000 := by omega
theorem Ic.fit {w : World} {v : Value} {x L M : Nat} (h : Ic w v x L) (hx : x < 10000 ^ M) : Ic w v x M := by
 obtain ⟨A, c, e, h1, h2⟩ := h
 exact ⟨A, c, e, h1, cn_length_le ten_two hx⟩
theorem Rf.fit {w : World} {v : Value} {r : Rat} {L M : Nat} (h : Rf w v r L) (hr : Sz 10000 r M) : Rf w v r M := by
 obtain ⟨u, t, e, h1, h2⟩ := h
 exact ⟨u, t, e, h1.fit hr.1, h2.fit hr.2⟩
theorem Rf.sz {w : World} {v : Value} {r : Rat} {L : Nat} (h : Rf w v r L) : Sz 10000 r L := by
 obtain ⟨u, t, e, h1, h2⟩ := h
 exact ⟨h1.iw.lt, h2.iw.lt⟩
theorem Rf.more {w : World} {v : Value} {r : Rat} {L M : Nat} (h : Rf w v r L) (hL : L ≤ M) : Rf w v r M := h.fit (h.sz.more (by omega) hL)
theorem Q_ten : Q ≤ 10000 ^ 5 := by unfold Q; decide
def RxRet (w : World) (r : Rat) (L : Nat) (e : Ending) (w' : World) : Prop := ∃ x : Rx, e = .returned (rx x) ∧ x.r = r ∧ Rf w' (rx x) x.r L ∧ Below w.heap.size w w'
theorem RfRet.to {w : World} {r : Rat} {L M : Nat} {e : Ending} {w' : World} (h : RfRet w r L e w') (hs : Sz 10000 r M) : RxRet w r M e w' := by
 obtain ⟨v, rfl, h, hb⟩ := h
 obtain ⟨s, A, n, c, D, m, d, rfl, h⟩ := h.parts
 exact ⟨⟨s, (A, n, c), (D, m, d), r⟩, rfl, rfl, h.fit hs, hb⟩
theorem rof_f {w : World} {v : Value} {r : Rat} {L : Nat} (h : Ra w v r L) (h1 : 1 ≤ L) (hL : L ≤ 1000000000) :
  Calls Tryz.prog 10 #[v] w (RxRet w r (5 * L)) :=
 (rof_r h h1 hL).mono fun e w' k => k.to (sz_base Q_ten (h.sz h1))
theorem rqsmall_f (w : World) (z : Int) (h1 : -9223372036854775808 ≤ z) (h2 : z ≤ 9223372036854775807) :
  Calls Tryz.prog 14 #[.int .i64 z] w (RxRet w (z : Rat) 6) := (rqsmall_any w z h1 h2).mono fun e w' h => by
 obtain ⟨v, e1, h2, h3⟩ := h
 exact RfRet.to ⟨v, e1, h2, h3⟩ h2.sz
theorem rfto_f {w : World} {v : Value} {r : Rat} {L : Nat} (h : Rf w v r L) (hL : L ≤ 100000000000) :
  Calls Tryz.prog 12 #[v] w fun e w' => ∃ x : Rx, e = .returned (rx x) ∧ x.r = r ∧ Rc w' (rx x) x.r L ∧ Below w.heap.size w w' := (rfto_any h hL).mono fun e w' h => h.rx
structure Zt where
 c : Int
 s : Bool
 xs : List Nat
 ys : List Nat
instance : Inhabited Zt := ⟨⟨0, false, [], []⟩⟩
def Zt.r (z : Zt) : Rat := mkRat (zi z.s (vl Q z.xs)) (dn (vl Q z.ys))
def Zf (W : World) (x : Rx) (z : Zt) (L : Nat) : Prop := x.s = z.s ∧ x.r = z.r ∧ Lw W (sv x.u) z.xs L ∧ Lw W (sv x.t) z.ys L

end Go.Proofs.YtehdkdoaamlkdaaGreat
