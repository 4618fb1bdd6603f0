
/-
 Branchers: product, Score, Learn.
-/
import Derived.Test.YtehdkdoaamlkdaaGreatBr2
import Derived.Deep.RegionHeld3


namespace Go.Proofs.YtehdkdoaamlkdaaGreat
open Go.RowKit Go.Proofs.YtehdkdoaamlkdaaGreat.Num Go.Maps
set_option linter.unusedVariables false
set_option linter.unusedSimpArgs false
set_option maxRecDepth 100000
def prv (a b r : Rat) : Rat := (a * r) * (b * (1 - r))
set_option maxHeartbeats 8000000 in
theorem product_c {w : World} {B g m f cl L M : Nat} {es : Array MapEntry} {col : Int} {x0 x1 x : Rx} {k0 k1 : Int} {r : Rat} (hB : Bro w B g m f es cl)
  (hl0 : Looks m es cl col false x0 k0) (hl1 : Looks m es cl col true x1 k1) (hx0 : Ra w (rx x0) x0.r M) (hx1 : Ra w (rx x1) x1.r M)
  (hx : Ra w (rx x) r L) (h1 : 1 ≤ L) (hL : L ≤ 100000) (g1 : 1 ≤ M) (gM : M ≤ 100000) (n0 : 0 ≤ k0) (n1 : k0 ≤ 1000000) (n2 : 0 ≤ k1) (n3 : k1 ≤ 1000000) :
  Calls Tryz.prog 21 #[.pointer (some ⟨g, 0, none⟩), .int .i64 col, rx x] w (ScR w (prv (mnv x0.r k0) (mnv x1.r k1) r) (4 * M + 3 * L + 1)) := by
 have b2 : Below w.heap.size w ((w.alloc (rbox x.s (sv x.u) (sv x.t))).alloc rblk) := ((Below.refl _ _).alloc (Nat.le_refl _) _).alloc (by simp) _
 have P := hide (show Bq ((w.alloc (rbox x.s (sv x.u) (sv x.t))).alloc rblk) w.heap.size x.s (sv x.u) (sv x.t) from (Bq.new w _ _ _).step (bal _ _))
 have Z := hide (show Rb ((w.alloc (rbox x.s (sv x.u) (sv x.t))).alloc rblk) (w.heap.size + 1) by
  have h := Rb.new (w.alloc (rbox x.s (sv x.u) (sv x.t)))
  have h2 : Rb ((w.alloc (rbox x.s (sv x.u) (sv x.t))).alloc rblk) (w.heap.size + 1) := by simpa using h
  exact h2)
 have H := hide (hx.step b2)
 have HB := hide (hB.step b2)
 have X0 := hide (hx0.step b2)
 have X1 := hide (hx1.step b2)
 have HL0 := hide hl0
 have HL1 := hide hl1
 have B := hide b2
 clear hx b2 hB hx0 hx1 hl0 hl1
 obtain ⟨p0, p1, p2⟩ := bqc P.out
 go_enter Tryz.func21, Tryz.ntmps21
 go_wp2_with fail
 generalize ((w.alloc (rbox x.s (sv x.u) (sv x.t))).alloc rblk) = W0 at *
 refine (ways_c H.out h1 (by omega)).mono ?_
 rintro e w1 ⟨y, z, rfl, ey, ez, cy, cz, bx⟩
 have b3 : Below w1.heap.size w1 ((w1.alloc (rbox y.s (sv y.u) (sv y.t))).alloc (rbox z.s (sv z.u) (sv z.t))) := ((Below.refl _ _).alloc (Nat.le_refl _) _).alloc (by simp) _
 have PY := hide (show Bq ((w1.alloc (rbox y.s (sv y.u) (sv y.t))).alloc (rbox z.s (sv z.u) (sv z.t))) w1.heap.size y.s (sv y.u) (sv y.t) from (Bq.new w1 _ _ _).step (bal _ _))
 have PZ := hide (show Bq ((w1.alloc (rbox y.s (sv y.u) (sv y.t))).alloc (rbox z.s (sv z.u) (sv z.t))) (w1.heap.size + 1) z.s (sv z.u) (sv z.t) by
  have h := Bq.new (w1.alloc (rbox y.s (sv y.u) (sv y.t))) z.s (sv z.u) (sv z.t)
  have h2 : Bq ((w1.alloc (rbox y.s (sv y.u) (sv y.t))).alloc (rbox z.s (sv z.u) (sv z.t))) (w1.heap.size + 1) z.s (sv z.u) (sv z.t) := by simpa using h
  exact h2)
 have CY := hide (cy.step b3)
 have CZ := hide (cz.step b3)
 have EY := hide ey
 have EZ := hide ez
 have LT := hide (show w.heap.size + 1 < w1.heap.size from Nat.lt_of_lt_of_le Z.out.lt bx.size)
 replace Z := hide ((Z.out.step bx).step b3)
 replace HB := hide ((HB.out.step bx).step b3)
 replace X0 := hide ((X0.out.step bx).step b3)
 replace X1 := hide ((X1.out.step bx).step b3)
 replace B := hide (Below.step (Below.step B.out B.out.size bx) (Below.step B.out B.out.size bx).size b3)
 clear p0 p1 p2 P H ey ez cy cz bx b3
 go_wp2_with fail
 have hz1 : w1.heap.size ≠ w.heap.size + 1 := by have := LT.out; omega
 have hz2 : w1.heap.size + 1 ≠ w.heap.size + 1 := by have := LT.out; omega
 generalize ((w1.alloc (rbox y.s (sv y.u) (sv y.t))).alloc (rbox z.s (sv z.u) (sv z.t))) = w2 at *
 generalize w1.heap.size + 1 = gz at *
 generalize w1.heap.size = gy at *
 have bd := (Below.refl w2.heap.size w2).drew
 replace PY := hide (PY.out.step bd)
 replace PZ := hide (PZ.out.step bd)
 replace CY := hide (CY.out.step bd)
 replace CZ := hide (CZ.out.step bd)
 replace Z := hide (Z.out.step bd)
 replace HB := hide (HB.out.step bd)
 replace X0 := hide (X0.out.step bd)
 replace X1 := hide (X1.out.step bd)
 replace B := hide (Below.step B.out B.out.size bd)
 have T0 := hide True.intro
 have T1 := hide True.intro
 clear bd LT
 go_region_held3 (fun W => (W.cell? ⟨gy, 0, none⟩ = some (.bool y.s) ∧ W.cell? ⟨gy, 1, none⟩ = some (sv y.u) ∧ W.cell? ⟨gy, 2, none⟩ = some (sv y.t)) ∧ (W.cell? ⟨gz, 0, none⟩ = some (.bool z.s) ∧ W.cell? ⟨gz, 1, none⟩ = some (sv z.u) ∧ W.cell? ⟨gz, 2, none⟩ = some (sv z.t)))
  (first | with_reducible exact And.intro (bqc PY.out) (bqc PZ.out) | with_reducible exact And.intro ⟨cell_rset (bqc PY.out).1 hz1 _ _ _, cell_rset (bqc PY.out).2.1 hz1 _ _ _, cell_rset (bqc PY.out).2.2 hz1 _ _ _⟩ ⟨cell_rset (bqc PZ.out).1 hz2 _ _ _, cell_rset (bqc PZ.out).2.1 hz2 _ _ _, cell_rset (bqc PZ.out).2.2 hz2 _ _ _⟩)
  (first
   | (go_at_call 43; clear T0; refine Calls.mono (mean_c (up := false) HB.out HL0.out X0.out g1 (by omega) n0 n1) ?_; rintro e wx ⟨u0, rfl, eu, cu, bx⟩; have E0 := hide eu; have M0 := hide cu; replace PY := hide (PY.out.step bx); replace PZ := hide (PZ.out.step bx); replace CY := hide (CY.out.step bx); replace CZ := hide (CZ.out.step bx); replace Z := hide (Z.out.step bx); replace HB := hide (HB.out.step bx); replace X1 := hide (X1.out.step bx); replace B := hide (Below.step B.out B.out.size bx); clear bx eu cu)
   | (go_at_call 42; refine Calls.mono (mul_g (L := 2 * M) (M := L) M0.out.ra CY.out.ra (by omega) h1 (by omega) (by omega)) ?_; rintro e wx ⟨u2, rfl, eu, cu, bx⟩; have E2 := hide eu; have U2 := hide cu.1; replace PY := hide (PY.out.step bx); replace PZ := hide (PZ.out.step bx); replace CZ := hide (CZ.out.step bx); replace Z := hide (Z.out.step bx); replace HB := hide (HB.out.step bx); replace X1 := hide (X1.out.step bx); replace B := hide (Below.step B.out B.out.size bx); clear bx eu cu M0)
   | (go_at_call 43; clear T1; refine Calls.mono (mean_c (up := true) HB.out HL1.out X1.out g1 (by omega) n2 n3) ?_; rintro e wx ⟨u1, rfl, eu, cu, bx⟩; have E1 := hide eu; have M1 := hide cu; replace PY := hide (PY.out.step bx); replace PZ := hide (PZ.out.step bx); replace CZ := hide (CZ.out.step bx); replace U2 := hide (U2.out.step bx); replace Z := hide (Z.out.step bx); replace B := hide (Below.step B.out B.out.size bx); clear bx eu cu)
   | (go_at_call 42; refine Calls.mono (mul_g (L := 2 * M) (M := 2 * L + 1) M1.out.ra CZ.out.ra (by omega) (by omega) (by omega) (by omega)) ?_; rintro e wx ⟨u3, rfl, eu, cu, bx⟩; have E3 := hide eu; have U3 := hide cu.1; replace PY := hide (PY.out.step bx); replace PZ := hide (PZ.out.step bx); replace U2 := hide (U2.out.step bx); replace Z := hide (Z.out.step bx); replace B := hide (Below.step B.out B.out.size bx); clear bx eu cu M1)
   | (go_at_call 42; refine Calls.mono (mul_g (L := 2 * M + L) (M := 2 * M + (2 * L + 1)) U2.out.ra U3.out.ra (by omega) (by omega) (by omega) (by omega)) ?_; rintro e wx ⟨u4, rfl, eu, cu, bx⟩; replace PY := hide (PY.out.step bx); replace PZ := hide (PZ.out.step bx); obtain ⟨⟨k0', k1', k2, f0, f1, f2⟩, f3, f4⟩ := sc_put (w := w) (q := prv (mnv x0.r k0) (mnv x1.r k1) r) (L := 4 * M + 3 * L + 1) (by rw [eu, E2.out, E3.out, E0.out, E1.out, EY.out, EZ.out]; rfl) (cu.1.moreB (by omega)) (Z.out.step bx) (Below.step B.out B.out.size bx) (by omega); have F3 := hide f3; have F4 := hide f4; clear f3 f4 bx eu cu))
 all_goals
  go_wp2_with fail
  exact bodyPost_ret (rret rfl _ _ _ #[.bool u4.s, sv u4.u, sv u4.t] rfl rfl F3.out) rfl F4.out
set_option maxHeartbeats 8000000 in
theorem score0_c {w : World} {B g m cl L : Nat} {es : Array MapEntry} {col : Int} {x : Rx} {r : Rat} (hB : Bro w B g m 20 es cl)
  (hx : Ra w (rx x) r L) (h1 : 1 ≤ L) (hL : L ≤ 1000000) :
  Calls Tryz.prog 16 #[.pointer (some ⟨g, 0, none⟩), .int .i64 col, rx x] w (ScR w (lsr r) (2 * L + 1)) := by
 have b2 : Below w.heap.size w ((w.alloc (rbox x.s (sv x.u) (sv x.t))).alloc rblk).drew := (((Below.refl _ _).alloc (Nat.le_refl _) _).alloc (by simp) _).drew
 have P := hide (show Bq ((w.alloc (rbox x.s (sv x.u) (sv x.t))).alloc rblk).drew w.heap.size x.s (sv x.u) (sv x.t) from (Bq.new w _ _ _).step (bal _ _).drew)
 have Z := hide (show Rb ((w.alloc (rbox x.s (sv x.u) (sv x.t))).alloc rblk).drew (w.heap.size + 1) by
  have h := Rb.new (w.alloc (rbox x.s (sv x.u) (sv x.t)))
  have h2 : Rb ((w.alloc (rbox x.s (sv x.u) (sv x.t))).alloc rblk) (w.heap.size + 1) := by simpa using h
  exact h2)
 have H := hide (hx.step b2)
 have HB := hide (hB.step b2)
 have hg : g < w.heap.size := (Array.getElem?_eq_some_iff.1 hB.1).1
 have hne : g ≠ w.heap.size + 1 := by omega
 have B := hide b2
 clear hx b2 hB hg
 go_enter Tryz.func16, Tryz.ntmps16
 go_wp2_with fail
 generalize ((w.alloc (rbox x.s (sv x.u) (sv x.t))).alloc rblk) = W0 at *
 go_region_held3 (fun W => W.cell? ⟨g, 0, none⟩ = some (fnv 20) ∧ (W.cell? ⟨w.heap.size, 0, none⟩ = some (.bool x.s) ∧ W.cell? ⟨w.heap.size, 1, none⟩ = some (sv x.u) ∧ W.cell? ⟨w.heap.size, 2, none⟩ = some (sv x.t)))
  (first | with_reducible exact And.intro HB.out.c0 (bqc P.out) | with_reducible exact And.intro (cell_rset HB.out.c0 hne _ _ _) ⟨cell_rset (bqc P.out).1 (by simp) _ _ _, cell_rset (bqc P.out).2.1 (by simp) _ _ _, cell_rset (bqc P.out).2.2 (by simp) _ _ _⟩)
  (first
   | (go_at_call 20; refine Calls.mono (lesser_c _ _ H.out h1 hL) ?_; rintro e wx ⟨y, rfl, ey, cy, bx⟩; replace P := hide (P.out.step bx); replace HB := hide (HB.out.step bx); obtain ⟨⟨k0, k1, k2, f0, f1, f2⟩, f3, f4⟩ := sc_put (w := w) ey cy (Z.out.step bx) (Below.step B.out B.out.size bx) (by omega); have F3 := hide f3; have F4 := hide f4; clear f3 f4 bx ey cy))
 all_goals
  go_wp2_with fail
  exact bodyPost_ret (rret rfl _ _ _ #[.bool y.s, sv y.u, sv y.t] rfl rfl F3.out) rfl F4.out
set_option maxHeartbeats 8000000 in
theorem score1_c {w : World} {B g m cl L M : Nat} {es : Array MapEntry} {col : Int} {x0 x1 x : Rx} {k0 k1 : Int} {r : Rat} (hB : Bro w B g m 21 es cl)
  (hl0 : Looks m es cl col false x0 k0) (hl1 : Looks m es cl col true x1 k1) (hx0 : Ra w (rx x0) x0.r M) (hx1 : Ra w (rx x1) x1.r M)
  (hx : Ra w (rx x) r L) (h1 : 1 ≤ L) (hL : L ≤ 100000) (g1 : 1 ≤ M) (gM : M ≤ 100000) (n0 : 0 ≤ k0) (n1 : k0 ≤ 1000000) (n2 : 0 ≤ k1) (n3 : k1 ≤ 1000000) :
  Calls Tryz.prog 16 #[.pointer (some ⟨g, 0, none⟩), .int .i64 col, rx x] w (ScR w (prv (mnv x0.r k0) (mnv x1.r k1) r) (4 * M + 3 * L + 1)) := by
 have b2 : Below w.heap.size w ((w.alloc (rbox x.s (sv x.u) (sv x.t))).alloc rblk).drew := (((Below.refl _ _).alloc (Nat.le_refl _) _).alloc (by simp) _).drew
 have P := hide (show Bq ((w.alloc (rbox x.s (sv x.u) (sv x.t))).alloc rblk).drew w.heap.size x.s (sv x.u) (sv x.t) from (Bq.new w _ _ _).step (bal _ _).drew)
 have Z := hide (show Rb ((w.alloc (rbox x.s (sv x.u) (sv x.t))).alloc rblk).drew (w.heap.size + 1) by
  have h := Rb.new (w.alloc (rbox x.s (sv x.u) (sv x.t)))
  have h2 : Rb ((w.alloc (rbox x.s (sv x.u) (sv x.t))).alloc rblk) (w.heap.size + 1) := by simpa using h
  exact h2)
 have H := hide (hx.step b2)
 have HB := hide (hB.step b2)
 have X0 := hide (hx0.step b2)
 have X1 := hide (hx1.step b2)
 have HL0 := hide hl0
 have HL1 := hide hl1
 have hg : g < w.heap.size := (Array.getElem?_eq_some_iff.1 hB.1).1
 have hne : g ≠ w.heap.size + 1 := by omega
 have B := hide b2
 clear hx b2 hB hg hx0 hx1 hl0 hl1
 go_enter Tryz.func16, Tryz.ntmps16
 go_wp2_with fail
 generalize ((w.alloc (rbox x.s (sv x.u) (sv x.t))).alloc rblk) = W0 at *
 go_region_held3 (fun W => W.cell? ⟨g, 0, none⟩ = some (fnv 21) ∧ (W.cell? ⟨w.heap.size, 0, none⟩ = some (.bool x.s) ∧ W.cell? ⟨w.heap.size, 1, none⟩ = some (sv x.u) ∧ W.cell? ⟨w.heap.size, 2, none⟩ = some (sv x.t)))
  (first | with_reducible exact And.intro HB.out.c0 (bqc P.out) | with_reducible exact And.intro (cell_rset HB.out.c0 hne _ _ _) ⟨cell_rset (bqc P.out).1 (by simp) _ _ _, cell_rset (bqc P.out).2.1 (by simp) _ _ _, cell_rset (bqc P.out).2.2 (by simp) _ _ _⟩)
  (first
   | (go_at_call 21; refine Calls.mono (product_c HB.out HL0.out HL1.out X0.out X1.out H.out h1 hL g1 gM n0 n1 n2 n3) ?_; rintro e wx ⟨y, rfl, ey, cy, bx⟩; replace P := hide (P.out.step bx); replace HB := hide (HB.out.step bx); obtain ⟨⟨k0', k1', k2, f0, f1, f2⟩, f3, f4⟩ := sc_put (w := w) ey cy (Z.out.step bx) (Below.step B.out B.out.size bx) (by omega); have F3 := hide f3; have F4 := hide f4; clear f3 f4 bx ey cy))
 all_goals
  go_wp2_with fail
  exact bodyPost_ret (rret rfl _ _ _ #[.bool y.s, sv y.u, sv y.t] rfl rfl F3.out) rfl F4.out
end Go.Proofs.YtehdkdoaamlkdaaGreat
