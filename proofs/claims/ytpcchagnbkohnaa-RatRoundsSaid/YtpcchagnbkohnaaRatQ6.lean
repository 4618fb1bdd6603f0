/-
  The reference of fractions: Neg, Floor, Ceil, Add, Sub, IsWhole.
-/
import Derived.Test.YtpcchagnbkohnaaRatQ5
import Derived.Test.YtpcchagnbkohnaaZrefG
import Derived.Test.YtpcchagnbkohnaaRatM


namespace Go.Proofs.Ytpcchagnbkohnaa
open Go.RowKit Go.Proofs.Ytpcchagnbkohnaa.Num
set_option linter.unusedVariables false
set_option linter.unusedSimpArgs false
set_option maxRecDepth 100000

theorem floor_num (r : Rat) : zq r.num ((r.den : Nat) : Int) = r.floor := by
  have h := floor_mk r.num r.den (Nat.pos_of_ne_zero r.den_nz)
  rw [Rat.mkRat_self] at h
  exact h.symm
theorem add_num (a b : Rat) : mkRat (a.num * ((b.den : Nat) : Int) + b.num * ((a.den : Nat) : Int)) (a.den * b.den) = a + b := by
  have h := Rat.mkRat_add_mkRat a.num b.num a.den_nz b.den_nz
  rw [Rat.mkRat_self, Rat.mkRat_self] at h
  exact h.symm
theorem den_one (r : Rat) : r.den = 1 ↔ (r.floor : Rat) = r := by
  constructor
  · intro h
    have h1 := num_div r
    rw [h] at h1
    have h2 : (r.num : Rat) = r := by rw [← h1]; grind
    have h3 : r.floor = r.num := flo_eq (by rw [h2]; grind) (by rw [h2]; grind)
    rw [h3, h2]
  · intro h
    rw [← h]
    rfl
theorem lowest_q {w : World} {v t : Value} {z : Int} {y L : Nat} (hv : Qi w v z L) (ht : Ic w t y L) (hy : 0 < y) (h1 : 1 ≤ L) (hL : L ≤ 100000000000) :
    Calls Try.prog 56 #[v, t] w (RfRet w (mkRat z y) L) := by
  obtain ⟨u, rfl, hu⟩ := hv
  have h := lowest_any (s := decide (z < 0)) hu ht hy h1 hL
  rw [zi_num] at h
  exact h
theorem rf_neg {w : World} {sg : Bool} {u t : Value} {r : Rat} {L : Nat} (hu : Qi w (zv sg u) (-r.num) L) (ht : Ic w t r.den L) : Rf w (rv sg u t) (-r) L := by
  obtain ⟨u', e, hi⟩ := hu
  injection e with e
  have e2 : sg = decide (-r.num < 0) ∧ u = u' := by simpa using e
  obtain ⟨rfl, rfl⟩ := e2
  exact ⟨u, t, by rw [Rat.neg_num], by rw [Rat.neg_num]; exact hi, by rw [Rat.neg_den]; exact ht⟩
theorem fq_world1f (w : World) (s : Bool) (A D : Option Addr) (n c m d : Nat) :
    Below w.heap.size w ((w.alloc (fqbox s (.slice A n c) (.slice D m d))).alloc fqblk).drew ∧ Fb ((w.alloc (fqbox s (.slice A n c) (.slice D m d))).alloc fqblk).drew (w.heap.size + 1) ∧ Fx ((w.alloc (fqbox s (.slice A n c) (.slice D m d))).alloc fqblk).drew w.heap.size s A n c D m d := by
  refine ⟨below_drewN (((Below.refl _ _).alloc (Nat.le_refl _) _).alloc (by simp) _) 1, ?_, ?_, ?_, ?_⟩
  · have h := Fb.new (w.alloc (fqbox s (.slice A n c) (.slice D m d)))
    have h2 : Fb ((w.alloc (fqbox s (.slice A n c) (.slice D m d))).alloc fqblk) (w.heap.size + 1) := by simpa using h
    exact h2
  all_goals go_simp
theorem fq_world1q (w : World) (s : Bool) (A D : Option Addr) (n c m d : Nat) :
    Below w.heap.size w ((w.alloc (fqbox s (.slice A n c) (.slice D m d))).alloc qblk) ∧ Qb ((w.alloc (fqbox s (.slice A n c) (.slice D m d))).alloc qblk) (w.heap.size + 1) ∧ Fx ((w.alloc (fqbox s (.slice A n c) (.slice D m d))).alloc qblk) w.heap.size s A n c D m d ∧ w.heap.size + 1 < ((w.alloc (fqbox s (.slice A n c) (.slice D m d))).alloc qblk).heap.size := by
  refine ⟨((Below.refl _ _).alloc (Nat.le_refl _) _).alloc (by simp) _, ?_, ⟨?_, ?_, ?_⟩, ?_⟩
  · have h := Qb.new (w.alloc (fqbox s (.slice A n c) (.slice D m d)))
    simpa using h
  all_goals go_simp
theorem qbox2 (w : World) (s t : Bool) (A D : Option Addr) (n c m d : Nat) :
    Below w.heap.size w ((w.alloc (qbox s (.slice A n c))).alloc (qbox t (.slice D m d))) ∧ Bx ((w.alloc (qbox s (.slice A n c))).alloc (qbox t (.slice D m d))) w.heap.size s A n c := by
  refine ⟨((Below.refl _ _).alloc (Nat.le_refl _) _).alloc (by simp) _, ⟨?_, ?_⟩⟩ <;> go_simp
set_option maxHeartbeats 4000000 in
theorem rqneg_any {w : World} {a : Value} {r : Rat} {L : Nat} (ha : Rf w a r L) (hL : L ≤ 800000000000) :
    Calls Try.prog 65 #[a] w (RfRet w (-r) L) := by
  obtain ⟨s, A, n, c, D, m, d, rfl, ha⟩ := ha.parts
  obtain ⟨b2, hz, y1⟩ := fq_world1f w s A D n c m d
  have QA := hide (ha.split.1.step b2)
  have QD := hide ((qiden_ic ha.split.2).step b2)
  have P := hide y1
  have B := hide b2
  have Z := hide hz
  have hg0 : w.heap.size ≠ w.heap.size + 1 := by omega
  clear ha y1 b2 hz
  go_enter Try.func65, Try.ntmps65
  go_wp2_with fail
  generalize hW0 : ((w.alloc (fqbox s (.slice A n c) (.slice D m d))).alloc fqblk) = W0 at *
  go_region_held3 (fun W => (W.cell? ⟨w.heap.size, 0, none⟩ = some (.bool s) ∧ W.cell? ⟨w.heap.size, 1, none⟩ = some (.slice A n c) ∧ W.cell? ⟨w.heap.size, 2, none⟩ = some (.slice D m d)))
    (first | exact P.out | exact ⟨cell_rset P.out.1 hg0 _ _ _, cell_rset P.out.2.1 hg0 _ _ _, cell_rset P.out.2.2 hg0 _ _ _⟩)
    (first
      | (go_at_call 64; refine Calls.mono (qneg_any QA.out hL) ?_; rintro e wx ⟨v1, rfl, q1, bx⟩; obtain ⟨s1, x1, A1, n1, c1, rfl, -, -, -⟩ := id q1.parts; replace P := hide (P.out.step bx); obtain ⟨k0, k1, k2, f0, f1, f2, fin⟩ := rf_put (w0 := w) (rf_neg q1 (QD.out.step bx)) (Z.out.step bx) (by omega) (Below.step B.out B.out.size bx)))
  all_goals
    have F9 := hide fin
    clear fin
    go_wp2_with fail
    exact bodyPost_ret (rfret rfl _ _ _ #[.bool s1, .slice A1 n1 c1, .slice D m d] rfl rfl F9.out.1) rfl F9.out.2
set_option maxHeartbeats 4000000 in
theorem rqfloor_any {w : World} {a : Value} {r : Rat} {L : Nat} (ha : Rf w a r L) (hL6 : 6 ≤ L) (hL : L ≤ 10000000000) :
    Calls Try.prog 32 #[a] w (QRet w r.floor (L + 1)) := by
  obtain ⟨s, A, n, c, D, m, d, rfl, ha⟩ := ha.parts
  have hf := floor_num r
  have hd : ((r.den : Nat) : Int) ≠ 0 := by have := r.den_nz; omega
  obtain ⟨b2, hz, ⟨p0, p1, p2⟩, hlt⟩ := fq_world1q w s A D n c m d
  have DV := hide (qdivfloor_any (ha.split.1.step b2) (ha.split.2.step b2) hd hL6 hL)
  rw [← hf]
  generalize r.num = z at *
  generalize ((r.den : Nat) : Int) = q at *
  have B := hide b2
  have Z := hide hz
  have HLT := hide hlt
  clear ha b2 hz hlt hf hd
  go_enter Try.func32, Try.ntmps32
  go_wp2_with fail
  refine DV.out.mono ?_
  rintro e w3 ⟨q3, r3, rfl, hq, hr, bx⟩
  obtain ⟨s3, x3, A3, n3, c3, rfl, -, -, -⟩ := id hq.parts
  obtain ⟨s4, x4, A4, n4, c4, rfl, -, -, -⟩ := id hr.parts
  obtain ⟨b4, y0, y1⟩ := qbox2 w3 s3 s4 A3 A4 n3 c3 n4 c4
  have b5 := Below.step1 bx b4
  obtain ⟨sg, A1, n1, c1, e1, k0, k1, f0, f1, fin⟩ := q_ret (w0 := w) (hq.step b4) (Z.out.step HLT.out b5) (by omega) (Below.step B.out B.out.size b5)
  injection e1 with e1
  have e2 : s3 = sg ∧ A3 = A1 ∧ n3 = n1 ∧ c3 = c1 := by simpa using e1
  obtain ⟨rfl, rfl, rfl, rfl⟩ := e2
  have F := hide fin
  clear fin DV bx b4 b5 hq hr B Z HLT p0 p1 p2 e1
  go_wp2_with fail
  exact bodyPost_ret (qret rfl _ _ _ #[.bool s3, .slice A3 n3 c3] rfl rfl F.out.1) rfl F.out.2
set_option maxHeartbeats 4000000 in
theorem rqceil_any {w : World} {a : Value} {r : Rat} {L : Nat} (ha : Rf w a r L) (hL6 : 6 ≤ L) (hL : L ≤ 10000000000) :
    Calls Try.prog 33 #[a] w (QRet w (-((-r).floor)) (L + 1)) := by
  obtain ⟨s, A, n, c, D, m, d, rfl, ha⟩ := ha.parts
  obtain ⟨b2, hz, ⟨p0, p1, p2⟩, hlt⟩ := fq_world1q w s A D n c m d
  have NG := hide (rqneg_any (ha.step b2) (by omega))
  have B := hide b2
  have Z := hide hz
  have HLT := hide hlt
  clear ha b2 hz hlt
  go_enter Try.func33, Try.ntmps33
  go_wp2_with fail
  refine NG.out.mono ?_
  rintro e w3 ⟨v3, rfl, h3, bx⟩
  have B := hide (Below.step B.out B.out.size bx)
  have Z := hide (Z.out.step HLT.out bx)
  have HLT := hide (Nat.lt_of_lt_of_le HLT.out bx.size)
  have FL := hide (rqfloor_any h3 hL6 hL)
  clear NG bx h3 p0 p1 p2
  go_wp2_with fail
  refine FL.out.mono ?_
  rintro e w4 ⟨v4, rfl, h4, bx⟩
  have B := hide (Below.step B.out B.out.size bx)
  have Z := hide (Z.out.step HLT.out bx)
  have HLT := hide (Nat.lt_of_lt_of_le HLT.out bx.size)
  have NG := hide (qneg_any h4 (by omega))
  clear FL bx h4
  go_wp2_with fail
  refine NG.out.mono ?_
  rintro e w5 ⟨v5, rfl, h5, bx⟩
  obtain ⟨sg, A1, n1, c1, rfl, k0, k1, f0, f1, fin⟩ := q_ret (w0 := w) h5 (Z.out.step HLT.out bx) (by omega) (Below.step B.out B.out.size bx)
  have F := hide fin
  clear fin NG bx h5 B Z HLT
  go_wp2_with fail
  exact bodyPost_ret (qret rfl _ _ _ #[.bool sg, .slice A1 n1 c1] rfl rfl F.out.1) rfl F.out.2
theorem iw_lit1 (w : World) : Iw (w.alloc (.cells #[.int .i64 1] 3)) (.slice (some ⟨w.heap.size, 0, none⟩) 1 1) 1 1 := (ic_one w (Nat.le_refl 1)).iw
theorem cmpN_one (x : Nat) : (cmpN x 1 == 0) = decide (x = 1) := by
  unfold cmpN
  rcases Nat.lt_trichotomy x 1 with h | h | h
  · rw [if_pos h, decide_eq_false (by omega)]; rfl
  · subst h; rfl
  · rw [if_neg (by omega), if_pos h, decide_eq_false (by omega)]; rfl
set_option maxHeartbeats 4000000 in
theorem rqwhole_any {w : World} {a : Value} {r : Rat} {L : Nat} (ha : Rf w a r L) (hL : L ≤ 10000000000) :
    Calls Try.prog 36 #[a] w fun e w' => e = .returned (.bool (decide ((r.floor : Rat) = r))) ∧ Below w.heap.size w w' := by
  obtain ⟨s, A, n, c, D, m, d, rfl, ha⟩ := ha.parts
  obtain ⟨b1, p0, p1, p2⟩ := fqbox1 w s A n c D m d
  have b2 : Below w.heap.size w ((w.alloc (fqbox s (.slice A n c) (.slice D m d))).alloc (.cells #[.int .i64 1] 3)) := b1.alloc (by simp) _
  have hc := icmp ((qiden_ic ha.split.2).step b2).iw (iw_lit1 (w.alloc (fqbox s (.slice A n c) (.slice D m d)))) (by omega) (by omega)
  simp only [World.size_alloc] at hc
  obtain ⟨o, ho⟩ : ∃ o, cmpN r.den 1 = o := ⟨_, rfl⟩
  have h1 := cmpN_one r.den
  rw [ho] at hc h1
  have hr : decide ((r.floor : Rat) = r) = (o == 0) := by rw [h1]; exact (decide_eq_decide.2 (den_one r)).symm
  rw [hr]
  have CM := hide hc
  have B := hide b2
  clear ha b1 b2 hc ho h1 hr
  go_enter Try.func36, Try.ntmps36
  go_wp2_with fail
  refine CM.out.mono ?_
  rintro e w3 ⟨rfl, rfl⟩
  clear CM p0 p1 p2
  go_wp2_with fail
  go_ret
  exact ⟨rfl, B.out⟩

set_option maxHeartbeats 8000000 in
theorem rqadd_any {w : World} {a b : Value} {r1 r2 : Rat} {L : Nat} (ha : Rf w a r1 L) (hb : Rf w b r2 L) (h1 : 1 ≤ L) (hL : L ≤ 10000000000) :
    Calls Try.prog 66 #[a, b] w (RfRet w (r1 + r2) (L + L + 1)) := by
  obtain ⟨s, A, n, c, D, m, d, rfl, ha⟩ := ha.parts
  obtain ⟨t, F, k, f, H, l, h, rfl, hb⟩ := hb.parts
  obtain ⟨b2, hz, y1, y2⟩ := fq_world2 w s t A D F H n c m d k f l h
  have R := hide (And.intro (ha.split.1.step b2) (And.intro (ha.split.2.step b2) (And.intro (hb.split.1.step b2) (hb.split.2.step b2))))
  have P := hide (And.intro y1 y2)
  have B := hide b2
  have Z := hide hz
  have hg0 : w.heap.size ≠ w.heap.size + 1 + 1 := by omega
  have hg1 : w.heap.size + 1 ≠ w.heap.size + 1 + 1 := by omega
  clear ha hb y1 y2 b2 hz
  have HE := hide (add_num r1 r2)
  have HP := hide (Nat.mul_pos (Nat.pos_of_ne_zero r1.den_nz) (Nat.pos_of_ne_zero r2.den_nz))
  generalize r1.num = a1 at *
  generalize r1.den = e1 at *
  generalize r2.num = a2 at *
  generalize r2.den = e2 at *
  go_enter Try.func66, Try.ntmps66
  go_wp2_with fail
  generalize hW0 : (((w.alloc (fqbox s (.slice A n c) (.slice D m d))).alloc (fqbox t (.slice F k f) (.slice H l h))).alloc fqblk) = W0 at *
  go_region_held3 (fun W => (W.cell? ⟨w.heap.size, 0, none⟩ = some (.bool s) ∧ W.cell? ⟨w.heap.size, 1, none⟩ = some (.slice A n c) ∧ W.cell? ⟨w.heap.size, 2, none⟩ = some (.slice D m d)) ∧ (W.cell? ⟨w.heap.size + 1, 0, none⟩ = some (.bool t) ∧ W.cell? ⟨w.heap.size + 1, 1, none⟩ = some (.slice F k f) ∧ W.cell? ⟨w.heap.size + 1, 2, none⟩ = some (.slice H l h)))
    (first | exact P.out | exact ⟨⟨cell_rset P.out.1.1 hg0 _ _ _, cell_rset P.out.1.2.1 hg0 _ _ _, cell_rset P.out.1.2.2 hg0 _ _ _⟩, cell_rset P.out.2.1 hg1 _ _ _, cell_rset P.out.2.2.1 hg1 _ _ _, cell_rset P.out.2.2.2 hg1 _ _ _⟩)
    (first
      | (go_at_call 60; refine Calls.mono (rqtimes_any (z := a1) (q := ((e2 : Nat) : Int)) (L := L) ?_ ?_ (by omega)) ?_; (focus ((with_reducible exact R.out.1); done)); (focus ((with_reducible exact R.out.2.2.2); done)); rintro e wx ⟨vx, rfl, tx, bx⟩; replace P := hide (And.intro (P.out.1.step bx) (P.out.2.step bx)); replace R := hide (And.intro (R.out.1.step bx) (And.intro (R.out.2.1.step bx) (And.intro (R.out.2.2.1.step bx) (R.out.2.2.2.step bx)))); replace Z := hide (Z.out.step bx); replace B := hide (Below.step B.out B.out.size bx))
      | (go_at_call 60; refine Calls.mono (rqtimes_any (z := a2) (q := ((e1 : Nat) : Int)) (L := L) ?_ ?_ (by omega)) ?_; (focus ((with_reducible exact R.out.2.2.1); done)); (focus ((with_reducible exact R.out.2.1); done)); rintro e wx ⟨vx, rfl, tx, bx⟩; replace P := hide (And.intro (P.out.1.step bx) (P.out.2.step bx)); replace R := hide (And.intro (R.out.1.step bx) (And.intro (R.out.2.1.step bx) (And.intro (R.out.2.2.1.step bx) (R.out.2.2.2.step bx)))); replace Z := hide (Z.out.step bx); replace B := hide (Below.step B.out B.out.size bx))
      | (go_at_call 89; refine Calls.mono (qadd_any (a := a1 * ((e2 : Nat) : Int)) (b := a2 * ((e1 : Nat) : Int)) (L := L + L) (M := L + L) (K := L + L) ?_ ?_ (by omega) (by omega) (by omega)) ?_; (focus ((repeat (first | (with_reducible assumption) | (with_reducible refine Qi.step ?_ (by with_reducible assumption)))); done)); (focus ((repeat (first | (with_reducible assumption) | (with_reducible refine Qi.step ?_ (by with_reducible assumption)))); done)); rintro e wx ⟨vx, rfl, tx, bx⟩; replace P := hide (And.intro (P.out.1.step bx) (P.out.2.step bx)); replace R := hide (And.intro (R.out.1.step bx) (And.intro (R.out.2.1.step bx) (And.intro (R.out.2.2.1.step bx) (R.out.2.2.2.step bx)))); replace Z := hide (Z.out.step bx); replace B := hide (Below.step B.out B.out.size bx))
      | (go_at_call 79; refine Calls.mono (imul (L := L) (M := L) (qiden_ic R.out.2.1).iw (qiden_ic R.out.2.2.2).iw (by omega) (by omega)) ?_; rintro e wx ⟨vy, rfl, -, iy, bx⟩; replace P := hide (And.intro (P.out.1.step bx) (P.out.2.step bx)); replace R := hide (And.intro (R.out.1.step bx) (And.intro (R.out.2.1.step bx) (And.intro (R.out.2.2.1.step bx) (R.out.2.2.2.step bx)))); replace Z := hide (Z.out.step bx); replace B := hide (Below.step B.out B.out.size bx))
      | (go_at_call 56; refine Calls.mono (lowest_q (z := a1 * ((e2 : Nat) : Int) + a2 * ((e1 : Nat) : Int)) (y := e1 * e2) (L := L + L + 1) ?_ (iy.more (by omega)) HP.out (by omega) (by omega)) ?_; (focus ((repeat (first | (with_reducible assumption) | (with_reducible refine Qi.step ?_ (by with_reducible assumption)))); done)); rintro e wx ⟨vx, rfl, tx, bx⟩; obtain ⟨sg, A9, n9, c9, D9, m9, d9, rfl, tx⟩ := tx.parts; obtain ⟨k0, k1, k2, f0, f1, f2, fin⟩ := rf_put (w0 := w) tx (Z.out.step bx) (by omega) (Below.step B.out B.out.size bx); replace P := hide (And.intro (P.out.1.step bx) (P.out.2.step bx))))
  all_goals
    have F9 := hide fin
    clear fin
    go_wp2_with fail
    exact bodyPost_ret (rfret rfl _ _ _ #[.bool sg, .slice A9 n9 c9, .slice D9 m9 d9] rfl rfl F9.out.1) rfl (by rw [← HE.out]; exact F9.out.2)
set_option maxHeartbeats 8000000 in
theorem rqsub_any {w : World} {a b : Value} {r1 r2 : Rat} {L : Nat} (ha : Rf w a r1 L) (hb : Rf w b r2 L) (h1 : 1 ≤ L) (hL : L ≤ 10000000000) :
    Calls Try.prog 34 #[a, b] w (RfRet w (r1 - r2) (L + L + 1)) := by
  obtain ⟨s, A, n, c, D, m, d, rfl, ha⟩ := ha.parts
  obtain ⟨t, F, k, f, H, l, h, rfl, hb⟩ := hb.parts
  obtain ⟨b2, hz, y1, y2⟩ := fq_world2 w s t A D F H n c m d k f l h
  have R := hide (And.intro (ha.step b2) (hb.step b2))
  have P := hide (And.intro y1 y2)
  have B := hide b2
  have Z := hide hz
  have hg0 : w.heap.size ≠ w.heap.size + 1 + 1 := by omega
  have hg1 : w.heap.size + 1 ≠ w.heap.size + 1 + 1 := by omega
  clear ha hb y1 y2 b2 hz
  have HE : Hid (r1 + -r2 = r1 - r2) := hide (by grind)
  go_enter Try.func34, Try.ntmps34
  go_wp2_with fail
  generalize hW0 : (((w.alloc (fqbox s (.slice A n c) (.slice D m d))).alloc (fqbox t (.slice F k f) (.slice H l h))).alloc fqblk) = W0 at *
  go_region_held3 (fun W => (W.cell? ⟨w.heap.size, 0, none⟩ = some (.bool s) ∧ W.cell? ⟨w.heap.size, 1, none⟩ = some (.slice A n c) ∧ W.cell? ⟨w.heap.size, 2, none⟩ = some (.slice D m d)) ∧ (W.cell? ⟨w.heap.size + 1, 0, none⟩ = some (.bool t) ∧ W.cell? ⟨w.heap.size + 1, 1, none⟩ = some (.slice F k f) ∧ W.cell? ⟨w.heap.size + 1, 2, none⟩ = some (.slice H l h)))
    (first | exact P.out | exact ⟨⟨cell_rset P.out.1.1 hg0 _ _ _, cell_rset P.out.1.2.1 hg0 _ _ _, cell_rset P.out.1.2.2 hg0 _ _ _⟩, cell_rset P.out.2.1 hg1 _ _ _, cell_rset P.out.2.2.1 hg1 _ _ _, cell_rset P.out.2.2.2 hg1 _ _ _⟩)
    (first
      | (go_at_call 65; refine Calls.mono (rqneg_any (L := L) R.out.2 (by omega)) ?_; rintro e wx ⟨vx, rfl, tx, bx⟩; replace P := hide (And.intro (P.out.1.step bx) (P.out.2.step bx)); replace R := hide (And.intro (R.out.1.step bx) (R.out.2.step bx)); replace Z := hide (Z.out.step bx); replace B := hide (Below.step B.out B.out.size bx))
      | (go_at_call 66; refine Calls.mono (rqadd_any (r1 := r1) (r2 := -r2) (L := L) R.out.1 tx (by omega) (by omega)) ?_; rintro e wx ⟨vx, rfl, tx, bx⟩; obtain ⟨sg, A9, n9, c9, D9, m9, d9, rfl, tx⟩ := tx.parts; obtain ⟨k0, k1, k2, f0, f1, f2, fin⟩ := rf_put (w0 := w) tx (Z.out.step bx) (by omega) (Below.step B.out B.out.size bx); replace P := hide (And.intro (P.out.1.step bx) (P.out.2.step bx))))
  all_goals
    have F9 := hide fin
    clear fin
    go_wp2_with fail
    exact bodyPost_ret (rfret rfl _ _ _ #[.bool sg, .slice A9 n9 c9, .slice D9 m9 d9] rfl rfl F9.out.1) rfl (by rw [← HE.out]; exact F9.out.2)
set_option maxHeartbeats 2000000 in
theorem rsame_l {w : World} {u v : Value} {s : Bool} {xs ys : List Nat} {L M : Nat} (hu : Rl w u s xs ys L) (hv : Rl w v s xs ys M) :
    Calls Try.prog 15 #[u, v] w fun e w' => e = .returned (.bool true) ∧ Below w.heap.size w w' := by
  obtain ⟨A, n, c, D, m, d, rfl, a1, a2, -⟩ := hu.parts
  obtain ⟨F, k, f, H, l, h, rfl, c1, c2, -⟩ := hv.parts
  obtain ⟨b2, ⟨p0, p1, p2⟩, q0, q1, q2⟩ := f_world0 w s s A D F H n c m d k f l h
  have b3 : Below w.heap.size w ((w.alloc (rbox s (.slice A n c) (.slice D m d))).alloc (rbox s (.slice F k f) (.slice H l h))) := ((Below.refl _ _).alloc (Nat.le_refl _) _).alloc (by simp) _
  have C1 := hide (zsame_l (s := s) (a1.step b3) (c1.step b3))
  have N1 := hide (a2.step b3)
  have N2 := hide (c2.step b3)
  have B := hide b3
  have C : Hid (Fx ((w.alloc (rbox s (.slice A n c) (.slice D m d))).alloc (rbox s (.slice F k f) (.slice H l h))) w.heap.size s A n c D m d ∧ Fx ((w.alloc (rbox s (.slice A n c) (.slice D m d))).alloc (rbox s (.slice F k f) (.slice H l h))) (w.heap.size + 1) s F k f H l h) := hide ⟨⟨p0, p1, p2⟩, q0, q1, q2⟩
  clear b2 b3 a1 a2 c1 c2 p0 p1 p2 q0 q1 q2 hu hv
  go_enter Try.func15, Try.ntmps15
  go_wp2_with fail
  refine C1.out.mono ?_
  rintro e w1 ⟨rfl, b1⟩
  obtain ⟨p0, p1, p2⟩ := C.out.1.step b1
  obtain ⟨q0, q1, q2⟩ := C.out.2.step b1
  have B1 := hide (Below.step B.out B.out.size b1)
  have C2 := hide (same_l (N1.out.step b1) (N2.out.step b1))
  clear C1 N1 N2 B C b1
  go_wp2_with fail
  refine C2.out.mono ?_
  rintro e w2 ⟨rfl, b2⟩
  have B2 := hide (Below.step B1.out B1.out.size b2)
  clear C2 B1 b2 p0 p1 p2 q0 q1 q2
  go_wp2_with fail
  go_ret
  exact ⟨rfl, B2.out⟩
end Go.Proofs.Ytpcchagnbkohnaa
