
/-
 Fractions: Mul, Form, Add, Sub: the result is the call's own.
-/
import Derived.Test.YtehdkdoaamlkdaaGreatRown
import Derived.Test.YtehdkdoaamlkdaaGreatBundleF


namespace Go.Proofs.YtehdkdoaamlkdaaGreat
open Go.RowKit Go.Proofs.YtehdkdoaamlkdaaGreat.Num
set_option linter.unusedVariables false
set_option linter.unusedSimpArgs false
set_option maxRecDepth 100000
set_option maxHeartbeats 8000000 in
theorem rmul_o {w : World} {a b : Value} {r1 r2 : Rat} {L : Nat} (ha : Ra w a r1 L) (hb : Ra w b r2 L) (h1 : 1 ≤ L) (hL : 2 * L ≤ 17592186044000) :
  Calls Tryz.prog 42 #[a, b] w (RoRet w (r1 * r2) (2 * L)) := by
 obtain ⟨s, A, n, c, D, m, d, x, y, rfl, hu, ht, rfl⟩ := ha.parts
 obtain ⟨t, F, k, f, H, l, h, z, v, rfl, hv, hw, rfl⟩ := hb.parts
 have px : (zi s x).natAbs < Q ^ L := by rw [zi_abs]; exact hu.lt
 have pz : (zi t z).natAbs < Q ^ L := by rw [zi_abs]; exact hv.lt
 have py : ((dn y : Nat) : Int).natAbs < Q ^ L := by rw [Int.natAbs_natCast]; exact dn_lt ht.lt h1
 have pv : ((dn v : Nat) : Int).natAbs < Q ^ L := by rw [Int.natAbs_natCast]; exact dn_lt hw.lt h1
 have KP := hide (prod_lt px pz)
 have KQ := hide (prod_lt py pv)
 have hres : mkRat (zi s x) (dn y) * mkRat (zi t z) (dn v) = mkRat (zi s x * zi t z) (dn y * dn v) := Rat.mkRat_mul_mkRat _ _ _ _
 rw [hres]
 have hpos := Nat.mul_pos (dn_pos y) (dn_pos v)
 obtain ⟨b2, hz, ⟨p0, p1, p2⟩, q0, q1, q2⟩ := f_world2 w s t A D F H n c m d k f l h
 have nu : Nw (((w.alloc (rbox s (.slice A n c) (.slice D m d))).alloc (rbox t (.slice F k f) (.slice H l h))).alloc rblk).drew (.slice A n c) x L := hu.step b2
 have nt : Nw (((w.alloc (rbox s (.slice A n c) (.slice D m d))).alloc (rbox t (.slice F k f) (.slice H l h))).alloc rblk).drew (.slice D m d) y L := ht.step b2
 have nv : Nw (((w.alloc (rbox s (.slice A n c) (.slice D m d))).alloc (rbox t (.slice F k f) (.slice H l h))).alloc rblk).drew (.slice F k f) z L := hv.step b2
 have nw : Nw (((w.alloc (rbox s (.slice A n c) (.slice D m d))).alloc (rbox t (.slice F k f) (.slice H l h))).alloc rblk).drew (.slice H l h) v L := hw.step b2
 have za : Za (((w.alloc (rbox s (.slice A n c) (.slice D m d))).alloc (rbox t (.slice F k f) (.slice H l h))).alloc rblk).drew (zv s (.slice A n c)) (zi s x) L := Za.of nu
 have zb : Za (((w.alloc (rbox s (.slice A n c) (.slice D m d))).alloc (rbox t (.slice F k f) (.slice H l h))).alloc rblk).drew (zv t (.slice F k f)) (zi t z) L := Za.of nv
 have B := hide b2
 have Z := hide hz
 clear ha hb hu ht hv hw b2 hz px pz py pv hres
 go_enter Tryz.func42, Tryz.ntmps42
 go_wp2_with fail
 generalize hW0 : (((w.alloc (rbox s (.slice A n c) (.slice D m d))).alloc (rbox t (.slice F k f) (.slice H l h))).alloc rblk) = W0 at *
 go_region_held3 (fun W => W.cell? ⟨w.heap.size, 0, none⟩ = some (.bool s) ∧ W.cell? ⟨w.heap.size, 1, none⟩ = some (.slice A n c) ∧ W.cell? ⟨w.heap.size, 2, none⟩ = some (.slice D m d) ∧ W.cell? ⟨w.heap.size + 1, 0, none⟩ = some (.bool t) ∧ W.cell? ⟨w.heap.size + 1, 1, none⟩ = some (.slice F k f) ∧ W.cell? ⟨w.heap.size + 1, 2, none⟩ = some (.slice H l h))
  (first | with_reducible exact ⟨p0, p1, p2, q0, q1, q2⟩ | (refine ⟨?_, ?_, ?_, ?_, ?_, ?_⟩ <;> (repeat (first | (with_reducible assumption) | (with_reducible refine cell_keep ?_ (by with_reducible assumption)) | (with_reducible refine cell_rset ?_ (by simp <;> omega) _ _ _)))))
  (first
    | (go_at_call 45; refine Calls.mono (under_a (x := x) (y := y) (L := L) ?_ ?_ h1 (by omega)) ?_; (focus ((repeat (first | (with_reducible assumption) | (with_reducible refine Nw.step ?_ (by with_reducible assumption)))); done)); (focus ((repeat (first | (with_reducible assumption) | (with_reducible refine Nw.step ?_ (by with_reducible assumption)))); done)); rintro e wx ⟨vx, rfl, tx, bx⟩)
    | (go_at_call 45; refine Calls.mono (under_a (x := z) (y := v) (L := L) ?_ ?_ h1 (by omega)) ?_; (focus ((repeat (first | (with_reducible assumption) | (with_reducible refine Nw.step ?_ (by with_reducible assumption)))); done)); (focus ((repeat (first | (with_reducible assumption) | (with_reducible refine Nw.step ?_ (by with_reducible assumption)))); done)); rintro e wx ⟨vx, rfl, tx, bx⟩)
    | (go_at_call 49; refine Calls.mono (zmul_a (a := zi s x) (b := zi t z) (L := L) (M := L) (K := 2 * L) ?_ ?_ (by omega) (by omega) KP.out) ?_; (focus ((repeat (first | (with_reducible assumption) | (with_reducible refine Za.step ?_ (by with_reducible assumption)))); done)); (focus ((repeat (first | (with_reducible assumption) | (with_reducible refine Za.step ?_ (by with_reducible assumption)))); done)); rintro e wx ⟨vx, rfl, tx, bx⟩; replace tx := Zi.za tx)
    | (go_at_call 49; refine Calls.mono (zmul_a (a := (dn y : Int)) (b := (dn v : Int)) (L := L) (M := L) (K := 2 * L) ?_ ?_ (by omega) (by omega) KQ.out) ?_; (focus ((repeat (first | (with_reducible assumption) | (with_reducible refine Za.step ?_ (by with_reducible assumption)))); done)); (focus ((repeat (first | (with_reducible assumption) | (with_reducible refine Za.step ?_ (by with_reducible assumption)))); done)); rintro e wx ⟨vx, rfl, tx, bx⟩; replace tx := Zi.za tx; rw [← Int.natCast_mul] at tx)
    | (go_at_call 47; refine Calls.mono (over_own_a (p := zi s x * zi t z) (q := dn y * dn v) (L := 2 * L) ?_ ?_ hpos hL) ?_; (focus ((repeat (first | (with_reducible assumption) | (with_reducible refine Za.step ?_ (by with_reducible assumption)))); done)); (focus ((repeat (first | (with_reducible assumption) | (with_reducible refine Za.step ?_ (by with_reducible assumption)))); done)); rintro e wx ⟨sg, u9, t9, rfl, c9', o1, o2, dj, bx⟩; have st : Below W0.drew.heap.size W0.drew wx := (by (repeat (first | (with_reducible assumption) | (with_reducible refine Below.step1 ?_ (by with_reducible assumption))))); obtain ⟨A9, n9, c9, rfl⟩ := o1.slice; obtain ⟨D9, m9, d9, rfl⟩ := o2.slice; obtain ⟨k0, k1, k2, f0, f1, f2, fin⟩ := rr_put_o (w0 := w) c9' (o1.mono (own_le B.out.size (show Below W0.drew.heap.size W0.drew _ from by (repeat (first | (with_reducible assumption) | (with_reducible refine Below.step1 ?_ (by with_reducible assumption))))).size)) (o2.mono (own_le B.out.size (show Below W0.drew.heap.size W0.drew _ from by (repeat (first | (with_reducible assumption) | (with_reducible refine Below.step1 ?_ (by with_reducible assumption))))).size)) dj (Z.out.step st) (by omega) (Below.step B.out B.out.size st)))
 all_goals
  have F9 := hide fin
  clear fin
  go_wp2_with fail
  exact bodyPost_ret (rret rfl _ _ _ #[.bool sg, .slice A9 n9 c9, .slice D9 m9 d9] rfl rfl F9.out.1) rfl F9.out.2
set_option maxHeartbeats 8000000 in
theorem rform_o {w : World} {s : Bool} {A D : Option Addr} {n c m d x y L : Nat} (hu : Nw w (.slice A n c) x L) (ht : Nw w (.slice D m d) y L) (h1 : 1 ≤ L) (hL : L ≤ 17592186044000) :
  Calls Tryz.prog 67 #[rv s (.slice A n c) (.slice D m d)] w (RoRet w (mkRat (zi s x) (dn y)) L) := by
 obtain ⟨b2, hz, p0, p1, p2⟩ := f_world1 w s A D n c m d
 have nu : Nw ((w.alloc (rbox s (.slice A n c) (.slice D m d))).alloc rblk).drew (.slice A n c) x L := hu.step b2
 have nt : Nw ((w.alloc (rbox s (.slice A n c) (.slice D m d))).alloc rblk).drew (.slice D m d) y L := ht.step b2
 have za : Za ((w.alloc (rbox s (.slice A n c) (.slice D m d))).alloc rblk).drew (zv s (.slice A n c)) (zi s x) L := Za.of nu
 have B := hide b2
 have Z := hide hz
 clear hu ht b2 hz
 go_enter Tryz.func67, Tryz.ntmps67
 go_wp2_with fail
 generalize hW0 : ((w.alloc (rbox s (.slice A n c) (.slice D m d))).alloc rblk) = W0 at *
 go_region_held3 (fun W => W.cell? ⟨w.heap.size, 0, none⟩ = some (.bool s) ∧ W.cell? ⟨w.heap.size, 1, none⟩ = some (.slice A n c) ∧ W.cell? ⟨w.heap.size, 2, none⟩ = some (.slice D m d))
  (first | with_reducible exact ⟨p0, p1, p2⟩ | (refine ⟨?_, ?_, ?_⟩ <;> (repeat (first | (with_reducible assumption) | (with_reducible refine cell_keep ?_ (by with_reducible assumption)) | (with_reducible refine cell_rset ?_ (by simp) _ _ _)))))
  (first
    | (go_at_call 45; refine Calls.mono (under_a (s := s) (x := x) (y := y) (L := L) ?_ ?_ h1 hL) ?_; (focus ((repeat (first | (with_reducible assumption) | (with_reducible refine Nw.step ?_ (by with_reducible assumption)))); done)); (focus ((repeat (first | (with_reducible assumption) | (with_reducible refine Nw.step ?_ (by with_reducible assumption)))); done)); rintro e wx ⟨vx, rfl, tx, bx⟩)
    | (go_at_call 47; refine Calls.mono (over_own_a (p := zi s x) (q := dn y) (L := L) ?_ ?_ (dn_pos y) hL) ?_; (focus ((repeat (first | (with_reducible assumption) | (with_reducible refine Za.step ?_ (by with_reducible assumption)))); done)); (focus ((repeat (first | (with_reducible assumption) | (with_reducible refine Za.step ?_ (by with_reducible assumption)))); done)); rintro e wx ⟨sg, u9, t9, rfl, c9', o1, o2, dj, bx⟩; have st : Below W0.drew.heap.size W0.drew wx := (by (repeat (first | (with_reducible assumption) | (with_reducible refine Below.step1 ?_ (by with_reducible assumption))))); obtain ⟨A9, n9, c9, rfl⟩ := o1.slice; obtain ⟨D9, m9, d9, rfl⟩ := o2.slice; obtain ⟨k0, k1, k2, f0, f1, f2, fin⟩ := rr_put_o (w0 := w) c9' (o1.mono (own_le B.out.size (show Below W0.drew.heap.size W0.drew _ from by (repeat (first | (with_reducible assumption) | (with_reducible refine Below.step1 ?_ (by with_reducible assumption))))).size)) (o2.mono (own_le B.out.size (show Below W0.drew.heap.size W0.drew _ from by (repeat (first | (with_reducible assumption) | (with_reducible refine Below.step1 ?_ (by with_reducible assumption))))).size)) dj (Z.out.step st) (by omega) (Below.step B.out B.out.size st)))
 all_goals
  have F9 := hide fin
  clear fin
  go_wp2_with fail
  exact bodyPost_ret (rret rfl _ _ _ #[.bool sg, .slice A9 n9 c9, .slice D9 m9 d9] rfl rfl F9.out.1) rfl F9.out.2
set_option maxHeartbeats 8000000 in
theorem radd_o {w : World} {a b : Value} {r1 r2 : Rat} {L : Nat} (ha : Ra w a r1 L) (hb : Ra w b r2 L) (h1 : 1 ≤ L) (hL : 2 * L + 1 ≤ 17592186044000) :
  Calls Tryz.prog 39 #[a, b] w (RoRet w (r1 + r2) (2 * L + 1)) := by
 obtain ⟨s, A, n, c, D, m, d, x, y, rfl, hu, ht, hr1⟩ := ha.parts
 obtain ⟨t, F, k, f, H, l, h, z, v, rfl, hv, hw, hr2⟩ := hb.parts
 obtain ⟨b2, hz, ⟨p0, p1, p2⟩, ⟨q0, q1, q2⟩, hlt⟩ := f_world2n w s t A D F H n c m d k f l h
 have AL := hide (alike_r (ha.step b2) (hb.step b2) h1 (by omega))
 have B := hide b2
 have Z := hide hz
 have HLT := hide hlt
 clear hu ht hv hw b2 hz ha hb hr1 hr2 hlt
 go_enter Tryz.func39, Tryz.ntmps39
 go_wp2_with fail
 refine AL.out.mono ?_
 rintro e w1 ⟨u1, v1, d1, p1', p2', q', rfl, z1, z2, z3, hq, e1, e2, b1⟩
 obtain ⟨s1, A1, n1, c1, rfl, z1⟩ := z1.parts
 obtain ⟨s2, A2, n2, c2, rfl, z2⟩ := z2.parts
 obtain ⟨s3, A3, n3, c3, rfl, z3⟩ := z3.parts
 have hg0 : w1.heap.size ≠ w.heap.size + 1 + 1 := by have := HLT.out; have := b1.size; omega
 have hg1 : w1.heap.size + 1 ≠ w.heap.size + 1 + 1 := by have := HLT.out; have := b1.size; omega
 have hg2 : w1.heap.size + 1 + 1 ≠ w.heap.size + 1 + 1 := by have := HLT.out; have := b1.size; omega
 obtain ⟨x3, y1, y2, y3⟩ := box3 w1 s1 s2 s3 A1 A2 A3 n1 c1 n2 c2 n3 c3
 have HE : Hid (r1 + r2 = mkRat (p1' + p2') q') := hide (by rw [e1, e2, mk_add _ _ _ hq])
 have b5 := Below.step1 b1 x3
 have b6 := Below.drew (Below.refl (((w1.alloc (zbox s1 (.slice A1 n1 c1))).alloc (zbox s2 (.slice A2 n2 c2))).alloc (zbox s3 (.slice A3 n3 c3))).heap.size (((w1.alloc (zbox s1 (.slice A1 n1 c1))).alloc (zbox s2 (.slice A2 n2 c2))).alloc (zbox s3 (.slice A3 n3 c3))))
 have b7 := Below.step1 b5 b6
 have za := (z1.step (Below.step1 x3 b6))
 have zb := (z2.step (Below.step1 x3 b6))
 have zd := (z3.step (Below.step1 x3 b6))
 have B := hide (Below.step B.out B.out.size b7)
 have Z := hide (Z.out.step b7)
 have g0 := (y1.step b6).1
 have g1 := (y1.step b6).2
 have g2 := (y2.step b6).1
 have g3 := (y2.step b6).2
 have g4 := (y3.step b6).1
 have g5 := (y3.step b6).2
 clear AL e1 e2 b1 x3 y1 y2 y3 b5 b6 b7 z1 z2 z3 p0 p1 p2 q0 q1 q2
 go_wp2_with fail
 generalize (((w1.alloc (.cells #[.bool s1, .slice A1 n1 c1] 41)).alloc (.cells #[.bool s2, .slice A2 n2 c2] 41)).alloc (.cells #[.bool s3, .slice A3 n3 c3] 41)) = W0 at *
 generalize w1.heap.size = g at *
 go_region_held3 (fun W => W.cell? ⟨g, 0, none⟩ = some (.bool s1) ∧ W.cell? ⟨g, 1, none⟩ = some (.slice A1 n1 c1) ∧ W.cell? ⟨g + 1, 0, none⟩ = some (.bool s2) ∧ W.cell? ⟨g + 1, 1, none⟩ = some (.slice A2 n2 c2) ∧ W.cell? ⟨g + 1 + 1, 0, none⟩ = some (.bool s3) ∧ W.cell? ⟨g + 1 + 1, 1, none⟩ = some (.slice A3 n3 c3))
  (first | with_reducible exact ⟨g0, g1, g2, g3, g4, g5⟩ | with_reducible exact ⟨cell_keep g0 bx1, cell_keep g1 bx1, cell_keep g2 bx1, cell_keep g3 bx1, cell_keep g4 bx1, cell_keep g5 bx1⟩ | with_reducible exact ⟨cell_keep (cell_keep g0 bx1) bx2, cell_keep (cell_keep g1 bx1) bx2, cell_keep (cell_keep g2 bx1) bx2, cell_keep (cell_keep g3 bx1) bx2, cell_keep (cell_keep g4 bx1) bx2, cell_keep (cell_keep g5 bx1) bx2⟩ | with_reducible exact ⟨cell_rset (cell_keep (cell_keep g0 bx1) bx2) hg0 _ _ _, cell_rset (cell_keep (cell_keep g1 bx1) bx2) hg0 _ _ _, cell_rset (cell_keep (cell_keep g2 bx1) bx2) hg1 _ _ _, cell_rset (cell_keep (cell_keep g3 bx1) bx2) hg1 _ _ _, cell_rset (cell_keep (cell_keep g4 bx1) bx2) hg2 _ _ _, cell_rset (cell_keep (cell_keep g5 bx1) bx2) hg2 _ _ _⟩)
  (first
   | (go_at_call 66; refine Calls.mono (zadd_any (K := 2 * L) za zb (by omega) (by omega) (by omega)) ?_; rintro e wx1 ⟨vx, rfl, tx, bx1⟩)
   | (go_at_call 47; refine Calls.mono (over_own_a (p := p1' + p2') (q := q') (L := 2 * L + 1) tx.za ((zd.step bx1).more (by omega)) hq hL) ?_; rintro e wx2 ⟨sg, u9, t9, rfl, c9', o1, o2, dj, bx2⟩; have st := Below.step1 bx1 bx2; obtain ⟨A9, n9, c9, rfl⟩ := o1.slice; obtain ⟨D9, m9, d9, rfl⟩ := o2.slice; obtain ⟨k0, k1, k2, f0, f1, f2, fin⟩ := rr_put_o (w0 := w) c9' (o1.mono (own_le B.out.size bx1.size)) (o2.mono (own_le B.out.size bx1.size)) dj (Z.out.step st) (by omega) (Below.step B.out B.out.size st)))
 all_goals
  have F9 := hide fin
  clear fin
  go_wp2_with fail
  exact bodyPost_ret (rret rfl _ _ _ #[.bool sg, .slice A9 n9 c9, .slice D9 m9 d9] rfl rfl F9.out.1) rfl (by rw [HE.out]; exact F9.out.2)
set_option maxHeartbeats 8000000 in
theorem rsub_o {w : World} {a b : Value} {r1 r2 : Rat} {L : Nat} (ha : Ra w a r1 L) (hb : Ra w b r2 L) (h1 : 1 ≤ L) (hL : 2 * L + 1 ≤ 17592186044000) :
  Calls Tryz.prog 68 #[a, b] w (RoRet w (r1 - r2) (2 * L + 1)) := by
 obtain ⟨s, A, n, c, D, m, d, x, y, rfl, hu, ht, hr1⟩ := ha.parts
 obtain ⟨t, F, k, f, H, l, h, z, v, rfl, hv, hw, hr2⟩ := hb.parts
 obtain ⟨b2, hz, ⟨p0, p1, p2⟩, ⟨q0, q1, q2⟩, hlt⟩ := f_world2n w s t A D F H n c m d k f l h
 have AL := hide (alike_r (ha.step b2) (hb.step b2) h1 (by omega))
 have B := hide b2
 have Z := hide hz
 have HLT := hide hlt
 clear hu ht hv hw b2 hz ha hb hr1 hr2 hlt
 go_enter Tryz.func68, Tryz.ntmps68
 go_wp2_with fail
 refine AL.out.mono ?_
 rintro e w1 ⟨u1, v1, d1, p1', p2', q', rfl, z1, z2, z3, hq, e1, e2, b1⟩
 obtain ⟨s1, A1, n1, c1, rfl, z1⟩ := z1.parts
 obtain ⟨s2, A2, n2, c2, rfl, z2⟩ := z2.parts
 obtain ⟨s3, A3, n3, c3, rfl, z3⟩ := z3.parts
 have hg0 : w1.heap.size ≠ w.heap.size + 1 + 1 := by have := HLT.out; have := b1.size; omega
 have hg1 : w1.heap.size + 1 ≠ w.heap.size + 1 + 1 := by have := HLT.out; have := b1.size; omega
 have hg2 : w1.heap.size + 1 + 1 ≠ w.heap.size + 1 + 1 := by have := HLT.out; have := b1.size; omega
 obtain ⟨x3, y1, y2, y3⟩ := box3 w1 s1 s2 s3 A1 A2 A3 n1 c1 n2 c2 n3 c3
 have HE : Hid (r1 - r2 = mkRat (p1' - p2') q') := hide (by rw [e1, e2, mk_sub _ _ _ hq])
 have b5 := Below.step1 b1 x3
 have b6 := Below.drew (Below.refl (((w1.alloc (zbox s1 (.slice A1 n1 c1))).alloc (zbox s2 (.slice A2 n2 c2))).alloc (zbox s3 (.slice A3 n3 c3))).heap.size (((w1.alloc (zbox s1 (.slice A1 n1 c1))).alloc (zbox s2 (.slice A2 n2 c2))).alloc (zbox s3 (.slice A3 n3 c3))))
 have b7 := Below.step1 b5 b6
 have za := (z1.step (Below.step1 x3 b6))
 have zb := (z2.step (Below.step1 x3 b6))
 have zd := (z3.step (Below.step1 x3 b6))
 have B := hide (Below.step B.out B.out.size b7)
 have Z := hide (Z.out.step b7)
 have g0 := (y1.step b6).1
 have g1 := (y1.step b6).2
 have g2 := (y2.step b6).1
 have g3 := (y2.step b6).2
 have g4 := (y3.step b6).1
 have g5 := (y3.step b6).2
 clear AL e1 e2 b1 x3 y1 y2 y3 b5 b6 b7 z1 z2 z3 p0 p1 p2 q0 q1 q2
 go_wp2_with fail
 generalize (((w1.alloc (.cells #[.bool s1, .slice A1 n1 c1] 41)).alloc (.cells #[.bool s2, .slice A2 n2 c2] 41)).alloc (.cells #[.bool s3, .slice A3 n3 c3] 41)) = W0 at *
 generalize w1.heap.size = g at *
 go_region_held3 (fun W => W.cell? ⟨g, 0, none⟩ = some (.bool s1) ∧ W.cell? ⟨g, 1, none⟩ = some (.slice A1 n1 c1) ∧ W.cell? ⟨g + 1, 0, none⟩ = some (.bool s2) ∧ W.cell? ⟨g + 1, 1, none⟩ = some (.slice A2 n2 c2) ∧ W.cell? ⟨g + 1 + 1, 0, none⟩ = some (.bool s3) ∧ W.cell? ⟨g + 1 + 1, 1, none⟩ = some (.slice A3 n3 c3))
  (first | with_reducible exact ⟨g0, g1, g2, g3, g4, g5⟩ | with_reducible exact ⟨cell_keep g0 bx1, cell_keep g1 bx1, cell_keep g2 bx1, cell_keep g3 bx1, cell_keep g4 bx1, cell_keep g5 bx1⟩ | with_reducible exact ⟨cell_keep (cell_keep g0 bx1) bx2, cell_keep (cell_keep g1 bx1) bx2, cell_keep (cell_keep g2 bx1) bx2, cell_keep (cell_keep g3 bx1) bx2, cell_keep (cell_keep g4 bx1) bx2, cell_keep (cell_keep g5 bx1) bx2⟩ | with_reducible exact ⟨cell_rset (cell_keep (cell_keep g0 bx1) bx2) hg0 _ _ _, cell_rset (cell_keep (cell_keep g1 bx1) bx2) hg0 _ _ _, cell_rset (cell_keep (cell_keep g2 bx1) bx2) hg1 _ _ _, cell_rset (cell_keep (cell_keep g3 bx1) bx2) hg1 _ _ _, cell_rset (cell_keep (cell_keep g4 bx1) bx2) hg2 _ _ _, cell_rset (cell_keep (cell_keep g5 bx1) bx2) hg2 _ _ _⟩)
  (first
   | (go_at_call 85; refine Calls.mono (zsub_any (K := 2 * L) za zb (by omega) (by omega) (by omega)) ?_; rintro e wx1 ⟨vx, rfl, tx, bx1⟩)
   | (go_at_call 47; refine Calls.mono (over_own_a (p := p1' - p2') (q := q') (L := 2 * L + 1) tx.za ((zd.step bx1).more (by omega)) hq hL) ?_; rintro e wx2 ⟨sg, u9, t9, rfl, c9', o1, o2, dj, bx2⟩; have st := Below.step1 bx1 bx2; obtain ⟨A9, n9, c9, rfl⟩ := o1.slice; obtain ⟨D9, m9, d9, rfl⟩ := o2.slice; obtain ⟨k0, k1, k2, f0, f1, f2, fin⟩ := rr_put_o (w0 := w) c9' (o1.mono (own_le B.out.size bx1.size)) (o2.mono (own_le B.out.size bx1.size)) dj (Z.out.step st) (by omega) (Below.step B.out B.out.size st)))
 all_goals
  have F9 := hide fin
  clear fin
  go_wp2_with fail
  exact bodyPost_ret (rret rfl _ _ _ #[.bool sg, .slice A9 n9 c9, .slice D9 m9 d9] rfl rfl F9.out.1) rfl (by rw [HE.out]; exact F9.out.2)
end Go.Proofs.YtehdkdoaamlkdaaGreat
