/-
  Shared texts, one behind the other: ZrefG, RatM, RatQ6, Pk, Spw, Vref1, Vref2, Vref3, Vref4, Vcpy, Vcpy2, Vspl.
-/
import Derived.Test.YthnlehknbkiomaaGreatLatC
import Derived.Test.YthnlehknbkiomaaGreatBundleE
import Derived.Test.YthnlehknbkiomaaGreatBundleG
import Derived.Test.YthnlehknbkiomaaGreatRatQ5
import Derived.Test.YthnlehknbkiomaaGreatTm
import Derived.Test.YthnlehknbkiomaaGreatTv
import Derived.Test.YthnlehknbkiomaaGreatBundleO

namespace Go.Proofs.YthnlehknbkiomaaGreat
open Go.RowKit Go.Proofs.YthnlehknbkiomaaGreat.Num
set_option linter.unusedVariables false
set_option linter.unusedSimpArgs false
set_option maxRecDepth 100000
theorem flo_eq {r : Rat} {z : Int} (h1 : (z : Rat) ≤ r) (h2 : r < (z : Rat) + 1) : r.floor = z := by
 have a : z ≤ r.floor := Rat.le_floor_iff.2 h1
 have b : r.floor < z + 1 := Rat.floor_lt_iff.2 (by rw [Rat.intCast_add]; exact h2)
 omega
theorem cmpR_same (a : Rat) : cmpR a a = 0 := by unfold cmpR; rw [if_neg (by grind), if_neg (by grind)]
theorem cmpR_turn (a b : Rat) : cmpR b a = -cmpR a b := by unfold cmpR; split <;> split <;> (try split) <;> (try split) <;> first | rfl | (exfalso; grind)
theorem cmpR_le {a b : Rat} : cmpR a b ≤ 0 ↔ a ≤ b := by unfold cmpR; split <;> (try split) <;> constructor <;> intro h <;> first | omega | grind
theorem add_num (a b : Rat) : mkRat (a.num * ((b.den : Nat) : Int) + b.num * ((a.den : Nat) : Int)) (a.den * b.den) = a + b := by
 have h := Rat.mkRat_add_mkRat a.num b.num a.den_nz b.den_nz
 rw [Rat.mkRat_self, Rat.mkRat_self] at h
 exact h.symm
theorem den_one (r : Rat) : r.den = 1 ↔ (r.floor : Rat) = r := by
 constructor
 ·intro h
  have h1 := num_div r
  rw [h] at h1
  have h2 : (r.num : Rat) = r := by rw [← h1]; grind
  have h3 : r.floor = r.num := flo_eq (by rw [h2]; grind) (by rw [h2]; grind)
  rw [h3, h2]
 ·intro h
  rw [← h]
  rfl
theorem lowest_q {w : World} {v t : Value} {z : Int} {y L : Nat} (hv : Qi w v z L) (ht : Ic w t y L) (hy : 0 < y) (h1 : 1 ≤ L) (hL : L ≤ 100000000000) :
  Calls Tryz.prog 56 #[v, t] w (RfRet w (mkRat z y) L) := by
 obtain ⟨u, rfl, hu⟩ := hv
 have h := lowest_any (s := decide (z < 0)) hu ht hy h1 hL
 rw [zi_num] at h
 exact h
theorem iw_lit1 (w : World) : Iw (w.alloc (.cells #[.int .i64 1] 3)) (.slice (some ⟨w.heap.size, 0, none⟩) 1 1) 1 1 := (ic_one w (Nat.le_refl 1)).iw
theorem cmpN_one (x : Nat) : (cmpN x 1 == 0) = decide (x = 1) := by
 unfold cmpN
 rcases Nat.lt_trichotomy x 1 with h | h | h
 ·rw [if_pos h, decide_eq_false (by omega)]; rfl
 ·subst h; rfl
 ·rw [if_neg (by omega), if_pos h, decide_eq_false (by omega)]; rfl
set_option maxHeartbeats 4000000 in
theorem rqwhole_any {w : World} {a : Value} {r : Rat} {L : Nat} (ha : Rf w a r L) (hL : L ≤ 10000000000) :
  Calls Tryz.prog 23 #[a] w fun e w' => e = .returned (.bool (decide ((r.floor : Rat) = r))) ∧ Below w.heap.size w w' := by
 obtain ⟨s, A, n, c, D, m, d, rfl, ha⟩ := ha.parts
 obtain ⟨b1, p0, p1, p2⟩ := fqbox1 w s A n c D m d
 have b2 : Below w.heap.size w ((w.alloc (fqbox s (.slice A n c) (.slice D m d))).alloc (.cells #[.int .i64 1] 3)) := b1.alloc (by simp) _
 have hc := icmp ((qiden_ic ha.split.2).step b2).iw (iw_lit1 (w.alloc (fqbox s (.slice A n c) (.slice D m d)))) (by omega) (by omega)
 simp only [World.size_alloc] at hc
 obtain ⟨o, ho⟩ : ∃ o, cmpN r.den 1 = o := ⟨_, rfl⟩
 have h1 := cmpN_one r.den
 rw [ho] at hc h1
 have hr : decide ((r.floor : Rat) = r) = (o == 0) := by rw [h1]; exact (decide_eq_decide.2 (den_one r)).symm
 rw [hr]
 have CM := hide hc
 have B := hide b2
 clear ha b1 b2 hc ho h1 hr
 go_enter Tryz.func23, Tryz.ntmps23
 go_wp2_with fail
 refine CM.out.mono ?_
 rintro e w3 ⟨rfl, rfl⟩
 clear CM p0 p1 p2
 go_wp2_with fail
 go_ret
 exact ⟨rfl, B.out⟩
set_option maxHeartbeats 8000000 in
theorem rqadd_any {w : World} {a b : Value} {r1 r2 : Rat} {L : Nat} (ha : Rf w a r1 L) (hb : Rf w b r2 L) (h1 : 1 ≤ L) (hL : L ≤ 10000000000) :
  Calls Tryz.prog 28 #[a, b] w (RfRet w (r1 + r2) (L + L + 1)) := by
 obtain ⟨s, A, n, c, D, m, d, rfl, ha⟩ := ha.parts
 obtain ⟨t, F, k, f, H, l, h, rfl, hb⟩ := hb.parts
 obtain ⟨b2, hz, y1, y2⟩ := fq_world2 w s t A D F H n c m d k f l h
 have R := hide (And.intro (ha.split.1.step b2) (And.intro (ha.split.2.step b2) (And.intro (hb.split.1.step b2) (hb.split.2.step b2))))
 have P := hide (And.intro y1 y2)
 have B := hide b2
 have Z := hide hz
 have hg0 : w.heap.size ≠ w.heap.size + 1 + 1 := by omega
 have hg1 : w.heap.size + 1 ≠ w.heap.size + 1 + 1 := by omega
 clear ha hb y1 y2 b2 hz
 have HE := hide (add_num r1 r2)
 have HP := hide (Nat.mul_pos (Nat.pos_of_ne_zero r1.den_nz) (Nat.pos_of_ne_zero r2.den_nz))
 generalize r1.num = a1 at *
 generalize r1.den = e1 at *
 generalize r2.num = a2 at *
 generalize r2.den = e2 at *
 go_enter Tryz.func28, Tryz.ntmps28
 go_wp2_with fail
 generalize hW0 : (((w.alloc (fqbox s (.slice A n c) (.slice D m d))).alloc (fqbox t (.slice F k f) (.slice H l h))).alloc fqblk) = W0 at *
 go_region_held3 (fun W => (W.cell? ⟨w.heap.size, 0, none⟩ = some (.bool s) ∧ W.cell? ⟨w.heap.size, 1, none⟩ = some (.slice A n c) ∧ W.cell? ⟨w.heap.size, 2, none⟩ = some (.slice D m d)) ∧ (W.cell? ⟨w.heap.size + 1, 0, none⟩ = some (.bool t) ∧ W.cell? ⟨w.heap.size + 1, 1, none⟩ = some (.slice F k f) ∧ W.cell? ⟨w.heap.size + 1, 2, none⟩ = some (.slice H l h)))
  (first | exact P.out | exact ⟨⟨cell_rset P.out.1.1 hg0 _ _ _, cell_rset P.out.1.2.1 hg0 _ _ _, cell_rset P.out.1.2.2 hg0 _ _ _⟩, cell_rset P.out.2.1 hg1 _ _ _, cell_rset P.out.2.2.1 hg1 _ _ _, cell_rset P.out.2.2.2 hg1 _ _ _⟩)
  (first
   | (go_at_call 53; refine Calls.mono (rqtimes_any (z := a1) (q := ((e2 : Nat) : Int)) (L := L) ?_ ?_ (by omega)) ?_; (focus ((with_reducible exact R.out.1); done)); (focus ((with_reducible exact R.out.2.2.2); done)); rintro e wx ⟨vx, rfl, tx, bx⟩; replace P := hide (And.intro (P.out.1.step bx) (P.out.2.step bx)); replace R := hide (And.intro (R.out.1.step bx) (And.intro (R.out.2.1.step bx) (And.intro (R.out.2.2.1.step bx) (R.out.2.2.2.step bx)))); replace Z := hide (Z.out.step bx); replace B := hide (Below.step B.out B.out.size bx))
   | (go_at_call 53; refine Calls.mono (rqtimes_any (z := a2) (q := ((e1 : Nat) : Int)) (L := L) ?_ ?_ (by omega)) ?_; (focus ((with_reducible exact R.out.2.2.1); done)); (focus ((with_reducible exact R.out.2.1); done)); rintro e wx ⟨vx, rfl, tx, bx⟩; replace P := hide (And.intro (P.out.1.step bx) (P.out.2.step bx)); replace R := hide (And.intro (R.out.1.step bx) (And.intro (R.out.2.1.step bx) (And.intro (R.out.2.2.1.step bx) (R.out.2.2.2.step bx)))); replace Z := hide (Z.out.step bx); replace B := hide (Below.step B.out B.out.size bx))
   | (go_at_call 68; refine Calls.mono (qadd_any (a := a1 * ((e2 : Nat) : Int)) (b := a2 * ((e1 : Nat) : Int)) (L := L + L) (M := L + L) (K := L + L) ?_ ?_ (by omega) (by omega) (by omega)) ?_; (focus ((repeat (first | (with_reducible assumption) | (with_reducible refine Qi.step ?_ (by with_reducible assumption)))); done)); (focus ((repeat (first | (with_reducible assumption) | (with_reducible refine Qi.step ?_ (by with_reducible assumption)))); done)); rintro e wx ⟨vx, rfl, tx, bx⟩; replace P := hide (And.intro (P.out.1.step bx) (P.out.2.step bx)); replace R := hide (And.intro (R.out.1.step bx) (And.intro (R.out.2.1.step bx) (And.intro (R.out.2.2.1.step bx) (R.out.2.2.2.step bx)))); replace Z := hide (Z.out.step bx); replace B := hide (Below.step B.out B.out.size bx))
   | (go_at_call 69; refine Calls.mono (imul (L := L) (M := L) (qiden_ic R.out.2.1).iw (qiden_ic R.out.2.2.2).iw (by omega) (by omega)) ?_; rintro e wx ⟨vy, rfl, -, iy, bx⟩; replace P := hide (And.intro (P.out.1.step bx) (P.out.2.step bx)); replace R := hide (And.intro (R.out.1.step bx) (And.intro (R.out.2.1.step bx) (And.intro (R.out.2.2.1.step bx) (R.out.2.2.2.step bx)))); replace Z := hide (Z.out.step bx); replace B := hide (Below.step B.out B.out.size bx))
   | (go_at_call 56; refine Calls.mono (lowest_q (z := a1 * ((e2 : Nat) : Int) + a2 * ((e1 : Nat) : Int)) (y := e1 * e2) (L := L + L + 1) ?_ (iy.more (by omega)) HP.out (by omega) (by omega)) ?_; (focus ((repeat (first | (with_reducible assumption) | (with_reducible refine Qi.step ?_ (by with_reducible assumption)))); done)); rintro e wx ⟨vx, rfl, tx, bx⟩; obtain ⟨sg, A9, n9, c9, D9, m9, d9, rfl, tx⟩ := tx.parts; obtain ⟨k0, k1, k2, f0, f1, f2, fin⟩ := rf_put (w0 := w) tx (Z.out.step bx) (by omega) (Below.step B.out B.out.size bx); replace P := hide (And.intro (P.out.1.step bx) (P.out.2.step bx))))
 all_goals
  have F9 := hide fin
  clear fin
  go_wp2_with fail
  exact bodyPost_ret (rfret rfl _ _ _ #[.bool sg, .slice A9 n9 c9, .slice D9 m9 d9] rfl rfl F9.out.1) rfl (by rw [← HE.out]; exact F9.out.2)
end Go.Proofs.YthnlehknbkiomaaGreat

namespace Go.Proofs.YthnlehknbkiomaaGreat.Num
abbrev Up (l : List Nat) : Prop := l.Pairwise (· < ·)
def Pl (ts : List Tm) (ps : List Nat) : Prop := Up ps ∧ (∀ y : Nat, y ∈ ps ↔ ∃ t ∈ ts, t.1 = (y : Int)) ∧ ps.length ≤ ts.length
end Go.Proofs.YthnlehknbkiomaaGreat.Num


namespace Go.Proofs.YthnlehknbkiomaaGreat
open Go.RowKit Go.Proofs.YthnlehknbkiomaaGreat.Num
set_option linter.unusedVariables false
set_option linter.unusedSimpArgs false
set_option maxRecDepth 100000
def Spw (B : Nat) (w w' : World) : Prop := Below B w w' ∧ w.heap.size ≤ w'.heap.size ∧ ∀ b j, b < w.heap.size → w'.frozen? ⟨b, j, none⟩ = w.frozen? ⟨b, j, none⟩ ∧
 (w'.cell? ⟨b, j, none⟩ = w.cell? ⟨b, j, none⟩ ∨ ((∃ z : Int, w.cell? ⟨b, j, none⟩ = some (.int .u64 z)) ∧ ∃ z : Int, w'.cell? ⟨b, j, none⟩ = some (.int .u64 z))) ∧
 ∀ cs T fz, w.heap[b]? = some (.cells cs T fz) → ∃ cs', w'.heap[b]? = some (.cells cs' T fz) ∧ (T ≠ 119 → cs' = cs)
theorem ten_two : 2 ≤ 10000 := by omega
theorem Ic.fit {w : World} {v : Value} {x L M : Nat} (h : Ic w v x L) (hx : x < 10000 ^ M) : Ic w v x M := by
 obtain ⟨A, c, e, h1, h2⟩ := h
 exact ⟨A, c, e, h1, cn_length_le ten_two hx⟩
theorem Rf.fit {w : World} {v : Value} {r : Rat} {L M : Nat} (h : Rf w v r L) (hr : Sz 10000 r M) : Rf w v r M := by
 obtain ⟨u, t, e, h1, h2⟩ := h
 exact ⟨u, t, e, h1.fit hr.1, h2.fit hr.2⟩
theorem Rf.sz {w : World} {v : Value} {r : Rat} {L : Nat} (h : Rf w v r L) : Sz 10000 r L := by
 obtain ⟨u, t, e, h1, h2⟩ := h
 exact ⟨h1.iw.lt, h2.iw.lt⟩
theorem Rf.more {w : World} {v : Value} {r : Rat} {L M : Nat} (h : Rf w v r L) (hL : L ≤ M) : Rf w v r M := h.fit (h.sz.more (by omega) hL)
theorem Q_ten : Q ≤ 10000 ^ 5 := by unfold Q; decide
def RxRet (w : World) (r : Rat) (L : Nat) (e : Ending) (w' : World) : Prop := ∃ x : Rx, e = .returned (rx x) ∧ x.r = r ∧ Rf w' (rx x) x.r L ∧ Below w.heap.size w w'
theorem RfRet.to {w : World} {r : Rat} {L M : Nat} {e : Ending} {w' : World} (h : RfRet w r L e w') (hs : Sz 10000 r M) : RxRet w r M e w' := by
 obtain ⟨v, rfl, h, hb⟩ := h
 obtain ⟨s, A, n, c, D, m, d, rfl, h⟩ := h.parts
 exact ⟨⟨s, (A, n, c), (D, m, d), r⟩, rfl, rfl, h.fit hs, hb⟩
theorem rqadd_f {w : World} {a b : Value} {r1 r2 : Rat} {L M : Nat} (ha : Rf w a r1 L) (hb : Rf w b r2 M) (h1 : 1 ≤ L) (hL : L ≤ 4000000000) (hM : M ≤ 4000000000) :
  Calls Tryz.prog 28 #[a, b] w (RxRet w (r1 + r2) (L + M + 1)) :=
 (rqadd_any (L := L + M) (ha.more (by omega)) (hb.more (by omega)) (by omega) (by omega)).mono fun e w' h => h.to (sz_add ten_two ha.sz hb.sz)
theorem rof_f {w : World} {v : Value} {r : Rat} {L : Nat} (h : Ra w v r L) (h1 : 1 ≤ L) (hL : L ≤ 1000000000) :
  Calls Tryz.prog 22 #[v] w (RxRet w r (5 * L)) :=
 (rof_r h h1 hL).mono fun e w' k => k.to (sz_base Q_ten (h.sz h1))
theorem rqsmall_f (w : World) (z : Int) (h1 : -9223372036854775808 ≤ z) (h2 : z ≤ 9223372036854775807) :
  Calls Tryz.prog 25 #[.int .i64 z] w (RxRet w (z : Rat) 6) := (rqsmall_any w z h1 h2).mono fun e w' h => by
 obtain ⟨v, e1, h2, h3⟩ := h
 exact RfRet.to ⟨v, e1, h2, h3⟩ h2.sz
theorem mul_num (a b : Rat) : mkRat (a.num * b.num) (a.den * b.den) = a * b := by rw [Rat.mul_def, Rat.normalize_eq_mkRat]
set_option maxHeartbeats 8000000 in
theorem rqmul_any {w : World} {a b : Value} {r1 r2 : Rat} {L : Nat} (ha : Rf w a r1 L) (hb : Rf w b r2 L) (h1 : 1 ≤ L) (hL : L ≤ 10000000000) :
  Calls Tryz.prog 30 #[a, b] w (RfRet w (r1 * r2) (L + L)) := by
 obtain ⟨s, A, n, c, D, m, d, rfl, ha⟩ := ha.parts
 obtain ⟨t, F, k, f, H, l, h, rfl, hb⟩ := hb.parts
 obtain ⟨b2, hz, y1, y2⟩ := fq_world2 w s t A D F H n c m d k f l h
 have R := hide (And.intro (ha.split.1.step b2) (And.intro (ha.split.2.step b2) (And.intro (hb.split.1.step b2) (hb.split.2.step b2))))
 have P := hide (And.intro y1 y2)
 have B := hide b2
 have Z := hide hz
 have hg0 : w.heap.size ≠ w.heap.size + 1 + 1 := by omega
 have hg1 : w.heap.size + 1 ≠ w.heap.size + 1 + 1 := by omega
 clear ha hb y1 y2 b2 hz
 have HE := hide (mul_num r1 r2)
 have HP := hide (Nat.mul_pos (Nat.pos_of_ne_zero r1.den_nz) (Nat.pos_of_ne_zero r2.den_nz))
 generalize r1.num = a1 at *
 generalize r1.den = e1 at *
 generalize r2.num = a2 at *
 generalize r2.den = e2 at *
 go_enter Tryz.func30, Tryz.ntmps30
 go_wp2_with fail
 generalize hW0 : (((w.alloc (fqbox s (.slice A n c) (.slice D m d))).alloc (fqbox t (.slice F k f) (.slice H l h))).alloc fqblk) = W0 at *
 go_region_held3 (fun W => (W.cell? ⟨w.heap.size, 0, none⟩ = some (.bool s) ∧ W.cell? ⟨w.heap.size, 1, none⟩ = some (.slice A n c) ∧ W.cell? ⟨w.heap.size, 2, none⟩ = some (.slice D m d)) ∧ (W.cell? ⟨w.heap.size + 1, 0, none⟩ = some (.bool t) ∧ W.cell? ⟨w.heap.size + 1, 1, none⟩ = some (.slice F k f) ∧ W.cell? ⟨w.heap.size + 1, 2, none⟩ = some (.slice H l h)))
  (first | exact P.out | exact ⟨⟨cell_rset P.out.1.1 hg0 _ _ _, cell_rset P.out.1.2.1 hg0 _ _ _, cell_rset P.out.1.2.2 hg0 _ _ _⟩, cell_rset P.out.2.1 hg1 _ _ _, cell_rset P.out.2.2.1 hg1 _ _ _, cell_rset P.out.2.2.2 hg1 _ _ _⟩)
  (first
   | (go_at_call 70; refine Calls.mono (qmul_any (a := a1) (b := a2) (L := L) (M := L) ?_ ?_ (by omega) (by omega)) ?_; (focus ((with_reducible exact R.out.1); done)); (focus ((with_reducible exact R.out.2.2.1); done)); rintro e wx ⟨vx, rfl, tx, bx⟩; have TX := hide tx; clear tx; replace P := hide (And.intro (P.out.1.step bx) (P.out.2.step bx)); replace R := hide (And.intro (R.out.1.step bx) (And.intro (R.out.2.1.step bx) (And.intro (R.out.2.2.1.step bx) (R.out.2.2.2.step bx)))); replace Z := hide (Z.out.step bx); replace B := hide (Below.step B.out B.out.size bx); clear bx)
   | (go_at_call 69; refine Calls.mono (imul (L := L) (M := L) (qiden_ic R.out.2.1).iw (qiden_ic R.out.2.2.2).iw (by omega) (by omega)) ?_; rintro e wx ⟨vy, rfl, -, iy, bx⟩; have IY := hide iy; clear iy; replace TX := hide (TX.out.step bx); replace P := hide (And.intro (P.out.1.step bx) (P.out.2.step bx)); replace Z := hide (Z.out.step bx); replace B := hide (Below.step B.out B.out.size bx); clear bx)
   | (go_at_call 56; refine Calls.mono (lowest_q (z := a1 * a2) (y := e1 * e2) (L := L + L) TX.out IY.out HP.out (by omega) (by omega)) ?_; rintro e wx ⟨vx, rfl, tx, bx⟩; obtain ⟨sg, A9, n9, c9, D9, m9, d9, rfl, tx⟩ := tx.parts; obtain ⟨k0, k1, k2, f0, f1, f2, fin⟩ := rf_put (w0 := w) tx (Z.out.step bx) (by omega) (Below.step B.out B.out.size bx); replace P := hide (And.intro (P.out.1.step bx) (P.out.2.step bx))))
 all_goals
  have F9 := hide fin
  clear fin
  go_wp2_with fail
  exact bodyPost_ret (rfret rfl _ _ _ #[.bool sg, .slice A9 n9 c9, .slice D9 m9 d9] rfl rfl F9.out.1) rfl (by rw [← HE.out]; exact F9.out.2)
theorem rqmul_f {w : World} {a b : Value} {r1 r2 : Rat} {L M : Nat} (ha : Rf w a r1 L) (hb : Rf w b r2 M) (h1 : 1 ≤ L) (hL : L ≤ 4000000000) (hM : M ≤ 4000000000) :
  Calls Tryz.prog 30 #[a, b] w (RxRet w (r1 * r2) (L + M)) :=
 (rqmul_any (L := L + M) (ha.more (by omega)) (hb.more (by omega)) (by omega) (by omega)).mono fun e w' h => h.to (sz_mul ha.sz hb.sz)
def Fq (W : World) (g : Nat) (s : Bool) (u t : Value) : Prop := W.heap[g]? = some (fqbox s u t)
theorem Fq.new (w : World) (s : Bool) (u t : Value) : Fq (w.alloc (fqbox s u t)) w.heap.size s u t := heap_alloc_new w _
theorem Fq.lt {W : World} {g : Nat} {s : Bool} {u t : Value} (h : Fq W g s u t) : g < W.heap.size := by unfold Fq at h; exact (Array.getElem?_eq_some_iff.1 h).1
theorem Fq.step {W W' : World} {g : Nat} {s : Bool} {u t : Value} (h : Fq W g s u t) (hb : Below W.heap.size W W') : Fq W' g s u t := (hb.block g h.lt).trans h
theorem Fq.all {W : World} {g : Nat} {s : Bool} {u t : Value} (h : Fq W g s u t) : W.cell? ⟨g, 0, none⟩ = some (.bool s) ∧ W.cell? ⟨g, 1, none⟩ = some u ∧ W.cell? ⟨g, 2, none⟩ = some t ∧ W.frozen? ⟨g, 0, none⟩ = false ∧ W.frozen? ⟨g, 1, none⟩ = false ∧ W.frozen? ⟨g, 2, none⟩ = false :=
 ⟨cell_of_row W g 0 _ _ _ h, cell_of_row W g 1 _ _ _ h, cell_of_row W g 2 _ _ _ h, frozen_of_row W g 0 _ _ h, frozen_of_row W g 1 _ _ h, frozen_of_row W g 2 _ _ h⟩
theorem Fq.put {W : World} {g : Nat} {s : Bool} {u t : Value} (h : Fq W g s u t) (s' : Bool) (u' t' : Value) : Fq (((W.setCell ⟨g, 0, none⟩ (.bool s')).setCell ⟨g, 1, none⟩ u').setCell ⟨g, 2, none⟩ t') g s' u' t' :=
 heap_setCell_same _ g 2 _ _ t' (heap_setCell_same _ g 1 _ _ u' (heap_setCell_same W g 0 _ _ (.bool s') h))
theorem Fb.other {W : World} {g h : Nat} (z : Fb W h) (hne : h ≠ g) (a b c : Value) : Fb (((W.setCell ⟨g, 0, none⟩ a).setCell ⟨g, 1, none⟩ b).setCell ⟨g, 2, none⟩ c) h :=
 ((Below.heap_setCell _ _ c h hne).trans ((Below.heap_setCell _ _ b h hne).trans (Below.heap_setCell _ _ a h hne))).trans z
def NuI (W : World) (g : Nat) : Prop := ∃ cs T fz, W.heap[g]? = some (.cells cs T fz) ∧ ∀ (j : Nat) (z : Int), cs[j]? ≠ some (.int .i64 z)
theorem nui_of {W : World} {g : Nat} {cs : Array Value} {T : TypeId} {fz : Nat × Nat} (h : W.heap[g]? = some (.cells cs T fz)) (hn : cs.toList.all (fun v => match v with | .int .i64 _ => false | _ => true) = true) : NuI W g :=
 ⟨cs, T, fz, h, fun j z hj => by
  have hm := List.all_eq_true.1 hn _ (Array.mem_toList_iff.2 (Array.mem_of_getElem? hj))
  simp at hm⟩
theorem Fq.nui {W : World} {g : Nat} {s : Bool} {A D : Option Addr} {n c m d : Nat} (h : Fq W g s (.slice A n c) (.slice D m d)) : NuI W g := nui_of h rfl
theorem Rd.grownI {W W' : World} {A : Option Addr} {n g : Nat} {xs : List Nat} (h : Rd .i64 W W.heap.size A n xs) (hg : W.grownBy W' (some g)) (hn : NuI W g) : Rd .i64 W' W'.heap.size A n xs := by
 refine ⟨h.1, fun h0 => ?_⟩
 obtain ⟨b, off, e, hb, hc⟩ := h.2 h0
 have hne : b ≠ g := by
  rintro rfl
  obtain ⟨cs, T, fz, hh, hno⟩ := hn
  have h1 := hc 0 h0
  rw [Nat.add_zero, cell_of_row W b off cs T fz hh] at h1
  exact hno _ _ h1
 exact ⟨b, off, e, Nat.lt_of_lt_of_le hb hg.size, fun j hj => (World.cell?_of_block (hg.block b hb (fun e => hne (Option.some.inj e)))).trans (hc j hj)⟩
theorem Ic.grownI {W W' : World} {v : Value} {x L g : Nat} (h : Ic W v x L) (hg : W.grownBy W' (some g)) (hn : NuI W g) : Ic W' v x L := by
 obtain ⟨A, c, e, h1, h2⟩ := h
 exact ⟨A, c, e, h1.grownI hg hn, h2⟩
theorem Rf.grownI {W W' : World} {v : Value} {r : Rat} {L g : Nat} (h : Rf W v r L) (hg : W.grownBy W' (some g)) (hn : NuI W g) : Rf W' v r L := by
 obtain ⟨u, t, e, h1, h2⟩ := h
 exact ⟨u, t, e, h1.grownI hg hn, h2.grownI hg hn⟩
theorem rq_put {w0 w : World} {x : Rx} {L g : Nat} (h : Rf w (rx x) x.r L) (hz : Fb w g) (hg0 : w0.heap.size ≤ g) (hb : Below w0.heap.size w0 w) :
  (w.cell? ⟨g, 0, none⟩ = some (.bool false) ∧ w.cell? ⟨g, 1, none⟩ = some (.slice none 0 0) ∧ w.cell? ⟨g, 2, none⟩ = some (.slice none 0 0) ∧
   w.frozen? ⟨g, 0, none⟩ = false ∧ w.frozen? ⟨g, 1, none⟩ = false ∧ w.frozen? ⟨g, 2, none⟩ = false) ∧
   (((w.setCell ⟨g, 0, none⟩ (.bool x.s)).setCell ⟨g, 1, none⟩ (sv x.u)).setCell ⟨g, 2, none⟩ (sv x.t)).heap[g]? = some (.cells #[.bool x.s, sv x.u, sv x.t] 56 (0, 0)) ∧
    RxRet w0 x.r L (.returned (rx x)) (((w.setCell ⟨g, 0, none⟩ (.bool x.s)).setCell ⟨g, 1, none⟩ (sv x.u)).setCell ⟨g, 2, none⟩ (sv x.t)) :=
 ⟨⟨hz.c0, hz.c1, hz.c2, hz.fz 0, hz.fz 1, hz.fz 2⟩, hz.set _ _ _, x, rfl, rfl, h.grownI (only_put3 w g _ _ _) (nui_of hz rfl), below_put3 hb hg0 _ _ _⟩
set_option maxHeartbeats 8000000 in
theorem vget_f {w : World} {v : Value} {d : List Tx} {L : Nat} {col : Int} (hv : Tv w v d L) (hn : d.length ≤ 1000) (h1 : 1 ≤ L) (hL : L ≤ 100000) :
  Calls Tryz.prog 54 #[v, .int .i64 col] w (RxRet w (gt (tms d) col) (d.length * (5 * L + 1) + 6)) := by
 obtain ⟨A, c, e1, hc1, hc2, hc3⟩ := id hv.1
 obtain ⟨n, hlen⟩ : ∃ n, n = d.length := ⟨_, rfl⟩
 rw [← hlen] at e1 hc1 hn ⊢
 subst e1
 have HV := hide hv
 have HN := hide hlen
 have HB := hide ((Below.refl w.heap.size w).alloc (Nat.le_refl _) fqblk)
 have HZ := hide (Fb.new w)
 clear hv hc3 hlen
 go_enter Tryz.func54, Tryz.ntmps54
 go_wp2_with fail
 refine (rqsmall_f (w.alloc fqblk) 0 (by omega) (by omega)).mono ?_
 rintro e w1 ⟨x, rfl, hx, rg, b1⟩
 have Z1 := hide (HZ.out.step b1)
 have B1 := hide (Below.step HB.out HB.out.size b1)
 have bx := (Below.refl w1.heap.size w1).alloc (Nat.le_refl _) (fqbox x.s (sv x.u) (sv x.t))
 have Z2 := hide (Z1.out.step bx)
 have B2 := hide (Below.step B1.out B1.out.size bx)
 have R2 := hide (rg.step bx)
 have Q2 := hide (Fq.new w1 x.s (sv x.u) (sv x.t))
 have X2 := hide hx
 have lt1 : w.heap.size < w1.heap.size := by have := b1.size; simp at this; omega
 clear bx rg b1 hx Z1 B1 HB HZ
 go_wp2_with fail
 generalize (w1.alloc (fqbox x.s (sv x.u) (sv x.t))) = w2 at *
 generalize w1.heap.size = g5 at *
 have HE := hide (show x.r = gt (tms (d.take 0)) col by rw [X2.out]; simp [tms, gt, gsum])
 clear X2
 go_loopw [6] (fun iv wr => ∃ (k : Nat) (x : Rx), k ≤ n ∧ iv = .int .i64 (k : Int) ∧ Hid (Below w.heap.size w wr) ∧ Hid (Fb wr w.heap.size) ∧ Fq wr g5 x.s (sv x.u) (sv x.t) ∧ Hid (x.r = gt (tms (d.take k)) col) ∧ Hid (Rf wr (rx x) x.r (k * (5 * L + 1) + 6))) (fun iv _ => n - (intOf iv).toNat)
 case atStart => exact ⟨0, x, Nat.zero_le _, rfl, B2, Z2, Q2.out, HE, by simpa using R2⟩
 case round =>
  obtain ⟨k, y, hk, rfl, B, Z, Qb, E, R⟩ := hrel
  by_cases hlt : k < n
  ·obtain ⟨t, ht⟩ := len_of (d := d) (k := k) (by rw [← HN.out]; exact hlt)
   have ET := hide (gt_take ht col)
   have HK := hide (show k * (5 * L + 1) + 6 ≤ 4000000000 by have := Nat.mul_le_mul (show k ≤ 1000 by omega) (show 5 * L + 1 ≤ 500001 by omega); omega)
   have HM := hide (show k * (5 * L + 1) + 6 + 5 * L + 1 = (k + 1) * (5 * L + 1) + 6 by rw [Nat.add_mul k 1]; omega)
   have HR := hide ((HV.out.2 t (List.mem_of_getElem? ht)).step B.out)
   obtain ⟨b, off, rfl, hb, hc⟩ := (HV.out.1.step B.out).get ht
   have c0 := hc 0 _ rfl
   have c1 := hc 1 _ rfl
   have c2 := hc 2 _ rfl
   have c3 := hc 3 _ rfl
   rw [Nat.add_zero] at c0
   have l0 : (0 : Int) ≤ (k : Int) := by omega
   have l1 : (k : Int) < (n : Int) := by omega
   clear hc hb ht
   by_cases hq : t.c = col ∧ 0 ≤ col
   ·rw [if_pos hq] at ET
    have t1 : (t.c == col) = true := beq_iff_eq.2 hq.1
    have t2 : decide (0 ≤ col) = true := decide_eq_true hq.2
    have b8 := (Below.refl wr.heap.size wr).drew
    replace HR := hide (HR.out.step b8)
    replace B := hide (Below.step B.out B.out.size b8)
    replace Z := hide (Z.out.step b8)
    replace R := hide (R.out.step b8)
    have Q8 := hide (Qb.step b8)
    clear hq b8 Qb
    go_wp2_with fail
    obtain ⟨p0, p1, p2, f0, f1, f2⟩ := Q8.out.all
    replace c0 := show wr.drew.cell? _ = _ from c0
    replace c1 := show wr.drew.cell? _ = _ from c1
    replace c2 := show wr.drew.cell? _ = _ from c2
    replace c3 := show wr.drew.cell? _ = _ from c3
    go_region_with (first
     | (go_at_call 22; refine Calls.mono (rof_f HR.out h1 (by omega)) ?_; rintro e wa ⟨ya, rfl, ha, ra, bx⟩; have Q7 := hide (Q8.out.step bx); obtain ⟨p0, p1, p2, f0, f1, f2⟩ := Q7.out.all; have R7 := hide (R.out.step bx); have B7 := hide (Below.step B.out B.out.size bx); have Z7 := hide (Z.out.step bx); have A7 := hide ra; have HA := hide ha; clear ha ra bx)
     | (go_at_call 28; refine Calls.mono (rqadd_f R7.out A7.out (by omega) HK.out (by omega)) ?_; rintro e wx ⟨z, rfl, hz, rz, bx⟩; have Q5 := hide (Q7.out.step bx); obtain ⟨p0, p1, p2, f0, f1, f2⟩ := Q5.out.all; have B5 := hide (Below.step B7.out B7.out.size bx); have Z5 := hide (Z7.out.step bx); have RZ := hide (rz.more (M := (k + 1) * (5 * L + 1) + 6) (by have := HM.out; omega)); have HZ := hide hz; clear hz rz bx))
    all_goals
     have only := only_put3 wx g5 (.bool z.s) (sv z.u) (sv z.t)
     have bz2 := hide (below_put3 B5.out (Nat.le_of_lt lt1) (.bool z.s) (sv z.u) (sv z.t))
     have zz := hide (Z5.out.other (g := g5) (by omega) (.bool z.s) (sv z.u) (sv z.t))
     have qq := hide (Q5.out.put z.s (sv z.u) (sv z.t))
     have ee := hide (show z.r = gt (tms (d.take (k + 1))) col by rw [HZ.out, HA.out, ET.out, E.out])
     have rr := hide (RZ.out.grownI only Q5.out.nui)
     clear only p0 p1 p2 f0 f1 f2
     go_wp2_with fail
     exact ⟨⟨k + 1, z, by omega, by go_num, bz2, zz, qq.out, ee, rr⟩, by simp [intOf]; omega⟩
   ·have ET := hide (ET.out.trans (by rw [if_neg hq, Rat.add_zero]))
    have RN := hide (R.out.more (M := (k + 1) * (5 * L + 1) + 6) (by rw [← HM.out]; omega))
    have EN := hide (E.out.trans ET.out.symm)
    by_cases hq1 : t.c = col
    ·have t1 : (t.c == col) = true := beq_iff_eq.2 hq1
     have t2 : decide (0 ≤ col) = false := decide_eq_false (fun h => hq ⟨hq1, h⟩)
     clear hq hq1
     go_wp2_with fail
     exact ⟨⟨k + 1, y, by omega, by go_num, B, Z, Qb, EN, RN⟩, by simp [intOf]; omega⟩
    ·have t1 : (t.c == col) = false := beq_eq_false_iff_ne.2 hq1
     clear hq hq1
     go_wp2_with fail
     exact ⟨⟨k + 1, y, by omega, by go_num, B, Z, Qb, EN, RN⟩, by simp [intOf]; omega⟩
  ·obtain rfl : k = n := by omega
   obtain ⟨p0, p1, p2, f0, f1, f2⟩ := Qb.all
   have e9 := hide (show y.r = gt (tms d) col by rw [E.out, List.take_of_length_le (by rw [← HN.out]; exact Nat.le_refl _)])
   obtain ⟨⟨k0, k1, k2, q0, q1, q2⟩, fin⟩ := rq_put R.out Z.out (Nat.le_refl _) B.out
   rw [e9.out] at fin
   have F := hide fin
   clear fin E R Z B Qb HE R2 B2 Z2 Q2
   go_wp2_with fail
   exact bodyPost_ret (rfret rfl _ _ _ #[.bool y.s, sv y.u, sv y.t] rfl rfl F.out.1) rfl F.out.2
theorem only_put2 (W : World) (g : Nat) (a b : Value) : W.grownBy ((W.setCell ⟨g, 0, none⟩ a).setCell ⟨g, 1, none⟩ b) (some g) :=
 only_set (p := ⟨g, 1, none⟩) (only_set (p := ⟨g, 0, none⟩) (only_refl W (some g)) rfl a) rfl b
def ZwRet (w : World) (z : Int) (L : Nat) (e : Ending) (w' : World) : Prop := ∃ A n c, e = .returned (zv (decide (z < 0)) (.slice A n c)) ∧ Cw w' (.slice A n c) z.natAbs L ∧ Wr w' w.heap.size (A, n, c) ∧ Below w.heap.size w w'
set_option maxHeartbeats 2000000 in
theorem qto_w {w : World} {v : Value} {z : Int} {L : Nat} (h : Qi w v z L) (hL : L ≤ 100000000000) :
  Calls Tryz.prog 65 #[v] w (ZwRet w z L) := by
 obtain ⟨u, rfl, hc⟩ := h
 obtain ⟨A, n, c, rfl⟩ := hc.iw.slice
 obtain ⟨s, hs⟩ : ∃ s, decide (z < 0) = s := ⟨_, rfl⟩
 unfold ZwRet
 rw [hs]
 have a1 : Below w.heap.size w (w.alloc (qbox s (.slice A n c))) := (Below.refl _ _).alloc (Nat.le_refl _) _
 have a2 : Below w.heap.size w ((w.alloc (qbox s (.slice A n c))).alloc zblk) := a1.alloc (by simp) _
 have p0 : ((w.alloc (qbox s (.slice A n c))).alloc zblk).cell? ⟨w.heap.size, 0, none⟩ = some (.bool s) := by go_simp
 have p1 : ((w.alloc (qbox s (.slice A n c))).alloc zblk).cell? ⟨w.heap.size, 1, none⟩ = some (.slice A n c) := by go_simp
 have hz : Zb ((w.alloc (qbox s (.slice A n c))).alloc zblk) (w.heap.size + 1) := by have h := Zb.new (w.alloc (qbox s (.slice A n c))); simpa using h
 have HS := hide (show w.heap.size + 1 < ((w.alloc (qbox s (.slice A n c))).alloc zblk).heap.size by simp)
 have H := hide (hc.step a2).iw
 have HA := hide a2
 have HZ := hide hz
 clear hc a1 a2 hz
 go_enter Tryz.func65, Tryz.ntmps65
 go_wp2_with fail
 generalize hW0 : (w.alloc (qbox s (.slice A n c))).alloc zblk = W0 at *
 have p0d : W0.drew.cell? ⟨w.heap.size, 0, none⟩ = some (.bool s) := p0
 have p1d : W0.drew.cell? ⟨w.heap.size, 1, none⟩ = some (.slice A n c) := p1
 have C := hide (to_l (w := W0.drew) (x := z.natAbs) H.out hL)
 go_region_held3 (fun W => W.cell? ⟨w.heap.size, 0, none⟩ = some (.bool s) ∧ W.cell? ⟨w.heap.size, 1, none⟩ = some (.slice A n c))
  (first
   | with_reducible exact ⟨p0d, p1d⟩
   | with_reducible exact ⟨cell_keep p0d b1, cell_keep p1d b1⟩
   | with_reducible exact ⟨cell_zset (cell_keep p0d b1) (by simp <;> omega) _ _, cell_zset (cell_keep p1d b1) (by simp <;> omega) _ _⟩)
  (first | (go_at_call 66; (with_reducible refine C.out.mono ?_); rintro e w1 ⟨r, rfl, o1, c1, b1⟩; obtain ⟨A1, n1, c2, rfl, k0, k1, f0, f1, fin⟩ := to_fit (w0 := w) (z := z) c1 (HZ.out.step HS.out (below_of_drew b1)) (by omega) (HA.out.trans ((below_of_drew b1).mono HA.out.size)) hs; have ZZ := hide (HZ.out.step HS.out (below_of_drew b1)); have CC := hide (c1.zset ZZ.out (.bool s) (.slice A1 n1 c2)); have WW := hide ((o1.wr.mono (B' := w.heap.size) HA.out.size).grown (only_put2 w1 (w.heap.size + 1) (.bool s) (.slice A1 n1 c2)) (nu_of ZZ.out rfl)); clear o1 c1))
 all_goals
  obtain ⟨fh, rr, fe, fl, fb⟩ := fin
  have F := hide (And.intro fh fb)
  clear fh fe fl fb
  go_wp2_with fail
  exact bodyPost_ret (zret rfl _ _ _ #[.bool s, .slice A1 n1 c2] rfl rfl F.out.1) rfl ⟨A1, n1, c2, rfl, CC.out, WW.out, F.out.2⟩
set_option maxHeartbeats 4000000 in
theorem rfto_g {w : World} {v : Value} {r : Rat} {L : Nat} (h : Rf w v r L) (hL : L ≤ 100000000000) :
  Calls Tryz.prog 26 #[v] w (RgRet w r L) := by
 obtain ⟨u, t, rfl, hu, ht⟩ := h
 obtain ⟨A, n, c, rfl⟩ := hu.iw.slice
 obtain ⟨D, m, d, rfl⟩ := ht.iw.slice
 obtain ⟨s, hs0⟩ : ∃ s, decide (r.num < 0) = s := ⟨_, rfl⟩
 have RC := hide (show ∀ W a b, Cw W a r.num.natAbs L → Cw W b r.den L → Rc W (rv s a b) r L from fun W a b h1 h2 => ⟨a, b, by rw [hs0], h1, h2⟩)
 have hq0 : Qi w (zv (decide (r.num < 0)) (.slice A n c)) r.num L := ⟨_, rfl, hu⟩
 generalize r.num = z at *
 generalize r.den = q at *
 rw [hs0] at hq0 ⊢
 have hs := hide hs0
 obtain ⟨b2, hz, p0, p1, p2⟩ := fq_world1 w s A D n c m d
 have nq : Qi ((w.alloc (fqbox s (.slice A n c) (.slice D m d))).alloc rblk).drew (zv s (.slice A n c)) z L := hq0.step b2
 have nt : Iw ((w.alloc (fqbox s (.slice A n c) (.slice D m d))).alloc rblk).drew (.slice D m d) q L := (ht.step b2).iw
 have B := hide b2
 have Z := hide hz
 have P := hide (And.intro p0 (And.intro p1 p2))
 have NQ := hide nq
 have NT := hide nt
 clear hu ht b2 hz hq0 hs0 nq nt p0 p1 p2
 go_enter Tryz.func26, Tryz.ntmps26
 go_wp2_with fail
 generalize hW0 : ((w.alloc (fqbox s (.slice A n c) (.slice D m d))).alloc rblk) = W0 at *
 go_region_held3 (fun W => W.cell? ⟨w.heap.size, 0, none⟩ = some (.bool s) ∧ W.cell? ⟨w.heap.size, 1, none⟩ = some (.slice A n c) ∧ W.cell? ⟨w.heap.size, 2, none⟩ = some (.slice D m d))
  (first | exact P.out | exact ⟨cell_rset P.out.1 (by simp) _ _ _, cell_rset P.out.2.1 (by simp) _ _ _, cell_rset P.out.2.2 (by simp) _ _ _⟩)
  (first
    | (go_at_call 65; refine Calls.mono (qto_w (z := z) (L := L) NQ.out hL) ?_; rintro e wx ⟨A9, n9, c9, rfl, cu, wu, bx⟩; rw [hs.out]; have CU := hide cu; have WU := hide (wu.mono (B' := w.heap.size) B.out.size); replace NT := hide (NT.out.step bx); replace P := hide (And.intro (cell_keep P.out.1 bx) (And.intro (cell_keep P.out.2.1 bx) (cell_keep P.out.2.2 bx))); replace Z := hide (Z.out.step bx); replace B := hide (Below.step B.out B.out.size bx); clear cu wu bx)
    | (go_at_call 66; refine Calls.mono (to_l (x := q) (L := L) NT.out hL) ?_; rintro e wx ⟨r9, rfl, o9, cr, bx⟩; obtain ⟨D9, d9, rfl, -⟩ := id cr; obtain ⟨⟨k0, k1, k2, f0, f1, f2⟩, fin⟩ := rg_put (w0 := w) (x := ⟨s, (A9, n9, c9), (D9, (cn Q q).length, d9), r⟩) (L := L) ⟨RC.out wx _ _ (CU.out.step bx) cr, WU.out.step bx, o9.wr.mono (B' := w.heap.size) B.out.size⟩ (Z.out.step bx) (by omega) (Below.step B.out B.out.size bx); replace P := hide (And.intro (cell_keep P.out.1 bx) (And.intro (cell_keep P.out.2.1 bx) (cell_keep P.out.2.2 bx)))))
 all_goals
  have F9 := hide fin
  clear fin
  go_wp2_with fail
  exact bodyPost_ret (rret rfl _ _ _ _ rfl rfl F9.out.1) rfl F9.out.2
theorem cmpR_ne {r : Rat} (h : r ≠ 0) : (cmpR r 0 != 0) = true := by
 unfold cmpR
 by_cases h1 : r < 0
 ·rw [if_pos h1]; rfl
 ·rw [if_neg h1]
  by_cases h2 : 0 < r
  ·rw [if_pos h2]; rfl
  ·exact absurd (by grind) h
structure Zt where
 c : Int
 s : Bool
 xs : List Nat
 ys : List Nat
instance : Inhabited Zt := ⟨⟨0, false, [], []⟩⟩
def Zt.r (z : Zt) : Rat := mkRat (zi z.s (vl Q z.xs)) (dn (vl Q z.ys))
def Zf (W : World) (x : Rx) (z : Zt) (L : Nat) : Prop := x.s = z.s ∧ x.r = z.r ∧ Lw W (sv x.u) z.xs L ∧ Lw W (sv x.t) z.ys L

end Go.Proofs.YthnlehknbkiomaaGreat
