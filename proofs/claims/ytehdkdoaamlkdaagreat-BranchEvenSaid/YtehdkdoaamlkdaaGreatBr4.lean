
/-
 Branchers: Learn.
-/
import Derived.Test.YtehdkdoaamlkdaaGreatBr3
import Derived.Test.YtehdkdoaamlkdaaGreatBundleO


namespace Go.Proofs.YtehdkdoaamlkdaaGreat
open Go.RowKit Go.Proofs.YtehdkdoaamlkdaaGreat.Num Go.Maps
set_option linter.unusedVariables false
set_option linter.unusedSimpArgs false
set_option maxRecDepth 100000
theorem sb_heap {W : World} {m b : Nat} {o : Obj} (hne : b ≠ m) : (Go.ChangeMaps.setBlock W m o).heap[b]? = W.heap[b]? := by
 unfold Go.ChangeMaps.setBlock
 simp [Array.getElem?_setIfInBounds, Ne.symm hne]
theorem sb_cell {W : World} {m b off : Nat} {o : Obj} {v : Value} (h : W.cell? ⟨b, off, none⟩ = some v) (hne : b ≠ m) : (Go.ChangeMaps.setBlock W m o).cell? ⟨b, off, none⟩ = some v :=
 (World.cell?_of_block (sb_heap hne)).trans h
theorem sb_below {B m : Nat} {w W : World} {o : Obj} (h : Below B w W) (hB : B ≤ m) : Below B w (Go.ChangeMaps.setBlock W m o) :=
 ⟨h.os, h.tape, h.output, by simpa [Go.ChangeMaps.setBlock] using h.size, fun b hb => (sb_heap (by omega)).trans (h.block b hb)⟩
abbrev gvv (y : Rx) : Value := .agg #[.bool y.s, sv y.u, sv y.t, .int .i64 1]
def LnRet (w : World) (B g m f : Nat) (q r : Rat) (N : Nat) (e : Ending) (w' : World) : Prop :=
 e = .returned (.bool true) ∧ ∃ y : Rx, y.r = r / q ∧ Rc w' (rx y) y.r N ∧ Bro w' B g m f #[⟨sdv 0 true, gvv y, 0⟩] 1 ∧ Below B w w'
theorem learn_fin {w W : World} {B g m f N : Nat} {q r : Rat} {y : Rx} (hy : y.r = r / q) (hc : Rc W (rx y) y.r N) (hB : Bro W B g m f #[] 0) (hb : Below B w W) :
  LnRet w B g m f q r N (.returned (.bool true)) (Go.ChangeMaps.setBlock W m (.map #[⟨sdv 0 true, gvv y, 0⟩] 1)) := by
 have hgm : g ≠ m := by
  rintro rfl
  have := hB.1.symm.trans hB.2.1
  cases this
 refine ⟨rfl, y, hy, ?_, ⟨(sb_heap hgm).trans hB.1, ?_, hB.2.2⟩, sb_below hb hB.2.2.2⟩
 ·obtain ⟨u, t, e, h1, h2⟩ := hc
  have key : ∀ {v : Value} {a : Nat}, Cw W v a N → Cw (Go.ChangeMaps.setBlock W m (.map #[⟨sdv 0 true, gvv y, 0⟩] 1)) v a N := by
   intro v a h
   obtain ⟨A, c, e, ⟨g1, g2⟩, g3⟩ := h
   refine ⟨A, c, e, ⟨g1, fun h0 => ?_⟩, g3⟩
   obtain ⟨b, off, e, hb, hcc⟩ := g2 h0
   have hne : b ≠ m := by
    rintro rfl
    have h1 := hcc 0 h0
    have := hB.2.1
    unfold World.cell? at h1
    rw [this] at h1
    cases h1
   exact ⟨b, off, e, by simpa [Go.ChangeMaps.setBlock] using hb, fun j hj => sb_cell (hcc j hj) hne⟩
  exact ⟨u, t, e, key h1, key h2⟩
 ·unfold Go.ChangeMaps.setBlock
  simp [Array.getElem?_setIfInBounds, (Array.getElem?_eq_some_iff.1 hB.2.1).1]
set_option maxHeartbeats 8000000 in
theorem learn_c {w : World} {B g m f L : Nat} {s t : Rx} {q r : Rat} (hB : Bro w B g m f #[] 0) (hb0 : B ≤ w.heap.size) (hs : Ra w (rx s) q L) (ht : Ra w (rx t) r L) (hq : 0 < q) (hr : 0 ≤ r) (h1 : 1 ≤ L) (hL : L ≤ 100000) :
  Calls Tryz.prog 18 #[.pointer (some ⟨g, 0, none⟩), .int .i64 0, .bool true, rx s, rx t] w (LnRet w B g m f q r (2 * L + 1 + 1)) := by
 have b2 : Below w.heap.size w ((w.alloc (rbox s.s (sv s.u) (sv s.t))).alloc (rbox t.s (sv t.u) (sv t.t))) := ((Below.refl _ _).alloc (Nat.le_refl _) _).alloc (by simp) _
 have PS := hide (show Bq ((w.alloc (rbox s.s (sv s.u) (sv s.t))).alloc (rbox t.s (sv t.u) (sv t.t))) w.heap.size s.s (sv s.u) (sv s.t) from (Bq.new w _ _ _).step (bal _ _))
 have PT := hide (show Bq ((w.alloc (rbox s.s (sv s.u) (sv s.t))).alloc (rbox t.s (sv t.u) (sv t.t))) (w.heap.size + 1) t.s (sv t.u) (sv t.t) by
  have h := Bq.new (w.alloc (rbox s.s (sv s.u) (sv s.t))) t.s (sv t.u) (sv t.t)
  have h2 : Bq ((w.alloc (rbox s.s (sv s.u) (sv s.t))).alloc (rbox t.s (sv t.u) (sv t.t))) (w.heap.size + 1) t.s (sv t.u) (sv t.t) := by simpa using h
  exact h2)
 have HS := hide (hs.step b2)
 have HT := hide (ht.step b2)
 have HB := hide (hB.step b2)
 have B2 := hide b2
 have HQ := hide hq
 have HR := hide hr
 clear hs ht b2 hB hq hr
 obtain ⟨p0, p1, p2⟩ := bqc PS.out
 obtain ⟨q0, q1, q2⟩ := bqc PT.out
 go_enter Tryz.func18, Tryz.ntmps18
 go_wp2_with fail
 generalize ((w.alloc (rbox s.s (sv s.u) (sv s.t))).alloc (rbox t.s (sv t.u) (sv t.t))) = W0 at *
 refine (sign_r (L := L) HS.out (by omega)).mono ?_
 rintro e w1 ⟨rfl, bx⟩
 have t1 : decide (cmpR q 0 ≤ 0) = false := by
  have := HQ.out
  unfold cmpR
  rw [if_neg (by grind), if_pos this]
  decide
 replace PS := hide (PS.out.step bx)
 replace PT := hide (PT.out.step bx)
 replace HS := hide (HS.out.step bx)
 replace HT := hide (HT.out.step bx)
 replace HB := hide (HB.out.step bx)
 replace B2 := hide (Below.step B2.out B2.out.size bx)
 clear bx p0 p1 p2 q0 q1 q2
 obtain ⟨q0, q1, q2⟩ := bqc PT.out
 go_wp2_with fail
 refine (sign_r (L := L) HT.out (by omega)).mono ?_
 rintro e w2 ⟨rfl, bx⟩
 have t2 : decide (cmpR r 0 < 0) = false := by
  have := HR.out
  unfold cmpR
  rw [if_neg (by grind)]
  split <;> decide
 replace PS := hide (PS.out.step bx)
 replace PT := hide (PT.out.step bx)
 replace HS := hide (HS.out.step bx)
 replace HT := hide (HT.out.step bx)
 replace HB := hide (HB.out.step bx)
 replace B2 := hide (Below.step B2.out B2.out.size bx)
 clear bx q0 q1 q2 t1
 obtain ⟨p0, p1, p2⟩ := bqc PS.out
 obtain ⟨q0, q1, q2⟩ := bqc PT.out
 go_wp2_with fail
 refine (bdiv_x (L := L) HT.out HS.out (by have := HQ.out; grind) h1 (by omega)).mono ?_
 rintro e w3 ⟨x, rfl, ex, cx, bx⟩
 have b3 := bal w3 (rbox x.s (sv x.u) (sv x.t))
 have PX := hide (Bq.new w3 x.s (sv x.u) (sv x.t))
 have EX := hide ex
 have CX := hide (cx.step b3)
 replace HB := hide ((HB.out.step bx).step b3)
 replace B2 := hide (Below.step (Below.step B2.out B2.out.size bx) (Below.step B2.out B2.out.size bx).size b3)
 clear bx p0 p1 p2 q0 q1 q2 t2 PS PT HS HT ex cx b3
 have m0 := HB.out.c1
 have l0 := look_nil 0 true HB.out.2.1
 go_wp2_with fail
 have SZ := hide (show (w3.alloc (rbox x.s (sv x.u) (sv x.t))).heap.size = w3.heap.size + 1 by simp)
 clear m0 l0
 generalize (w3.alloc (rbox x.s (sv x.u) (sv x.t))) = w4 at *
 generalize w3.heap.size = gx at *
 have b3 : Below w4.heap.size w4 (w4.alloc gzero).drew := (bal w4 _).drew
 have G0 := hide (show Gq (w4.alloc gzero).drew (gx + 1) ⟨false, (none, 0, 0), (none, 0, 0), 0⟩ 0 from by rw [← SZ.out]; exact heap_alloc_new w4 _)
 replace PX := hide (PX.out.step b3)
 replace CX := hide (CX.out.step b3)
 replace HB := hide (HB.out.step b3)
 replace B2 := hide (Below.step B2.out B2.out.size b3)
 have GM := hide (show g ≠ m by
  rintro rfl
  have := HB.out.1.symm.trans HB.out.2.1
  cases this)
 have XM := hide (show gx ≠ m by
  rintro rfl
  have := PX.out.symm.trans HB.out.2.1
  cases this)
 have YM := hide (show gx + 1 ≠ m by
  rintro rfl
  have := G0.out.symm.trans HB.out.2.1
  cases this)
 clear b3 SZ
 generalize (w4.alloc gzero) = w5 at *
 have hw1 : IntKind.i64.wrap 1 = 1 := by decide
 go_region_held3 (fun W => W.cell? ⟨g, 1, none⟩ = some (.map (some m)) ∧ (W.cell? ⟨gx, 0, none⟩ = some (.bool x.s) ∧ W.cell? ⟨gx, 1, none⟩ = some (sv x.u) ∧ W.cell? ⟨gx, 2, none⟩ = some (sv x.t)) ∧ (W.cell? ⟨gx + 1, 0, none⟩ = some (.bool false) ∧ W.cell? ⟨gx + 1, 1, none⟩ = some (.slice none 0 0) ∧ W.cell? ⟨gx + 1, 2, none⟩ = some (.slice none 0 0) ∧ W.cell? ⟨gx + 1, 3, none⟩ = some (.int .i64 0)))
  (first | with_reducible exact And.intro HB.out.c1 (And.intro (bqc PX.out) G0.out.all) | with_reducible exact And.intro (sb_cell HB.out.c1 GM.out) (And.intro ⟨sb_cell (bqc PX.out).1 XM.out, sb_cell (bqc PX.out).2.1 XM.out, sb_cell (bqc PX.out).2.2 XM.out⟩ ⟨sb_cell G0.out.all.1 YM.out, sb_cell G0.out.all.2.1 YM.out, sb_cell G0.out.all.2.2.1 YM.out, sb_cell G0.out.all.2.2.2 YM.out⟩))
  (first
   | (go_at_call 39; refine Calls.mono (add_g (L := 1) (M := 2 * L) (ra_zero _ 1) CX.out.ra (by omega) (by omega) (by omega) (by omega)) ?_; rintro e wx ⟨y, rfl, ey, gy, bx⟩; have EY := hide (show y.r = r / q by rw [ey, EX.out]; grind); have CY := hide (gy.1.moreB (M := 2 * L + 1 + 1) (by omega)); replace PX := hide (PX.out.step bx); replace G0 := hide (G0.out.step bx); replace HB := hide (HB.out.step bx); replace B2 := hide (Below.step B2.out B2.out.size bx); have mp := map_put (v := gvv y) HB.out.2.1; have FN := hide (learn_fin EY.out CY.out HB.out (B2.out.mono hb0)); clear bx ey gy))
 all_goals
  go_wp2_with fail
  go_ret
  exact FN.out
end Go.Proofs.YtehdkdoaamlkdaaGreat
