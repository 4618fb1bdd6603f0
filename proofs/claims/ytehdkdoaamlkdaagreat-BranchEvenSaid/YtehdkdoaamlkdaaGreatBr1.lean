
/-
 Branchers: New; ways, lesser.
-/
import Derived.Test.YtehdkdoaamlkdaaGreatBundleO
import Derived.Test.YtehdkdoaamlkdaaGreatBrm
import Derived.Test.YtehdkdoaamlkdaaGreatBundleF
import Derived.Laws.EntriesVeiled


namespace Go.Proofs.YtehdkdoaamlkdaaGreat
open Go.RowKit Go.Proofs.YtehdkdoaamlkdaaGreat.Num Go.Maps
set_option linter.unusedVariables false
set_option linter.unusedSimpArgs false
set_option maxRecDepth 100000
abbrev fnv (f : Nat) : Value := .func (.func f) #[] #[]
def Bro (W : World) (B g m f : Nat) (es : Array MapEntry) (cl : Nat) : Prop :=
 W.heap[g]? = some (.cells #[fnv f, .map (some m)] 58 (0, 0)) ∧ W.heap[m]? = some (.map es cl) ∧ B ≤ g ∧ B ≤ m
theorem Bro.step {W W' : World} {B g m f cl : Nat} {es : Array MapEntry} (h : Bro W B g m f es cl) (hb : Below W.heap.size W W') : Bro W' B g m f es cl := by
 obtain ⟨h1, h2, h3, h4⟩ := h
 exact ⟨(hb.block g (Array.getElem?_eq_some_iff.1 h1).1).trans h1, (hb.block m (Array.getElem?_eq_some_iff.1 h2).1).trans h2, h3, h4⟩
theorem Bro.mono {W : World} {B B' g m f cl : Nat} {es : Array MapEntry} (h : Bro W B g m f es cl) (hB : B' ≤ B) : Bro W B' g m f es cl := ⟨h.1, h.2.1, Nat.le_trans hB h.2.2.1, Nat.le_trans hB h.2.2.2⟩
theorem Bro.c0 {W : World} {B g m f cl : Nat} {es : Array MapEntry} (h : Bro W B g m f es cl) : W.cell? ⟨g, 0, none⟩ = some (fnv f) := cell_of_row W g 0 _ _ _ h.1
theorem Bro.c1 {W : World} {B g m f cl : Nat} {es : Array MapEntry} (h : Bro W B g m f es cl) : W.cell? ⟨g, 1, none⟩ = some (.map (some m)) := cell_of_row W g 1 _ _ _ h.1
set_option maxHeartbeats 4000000 in
theorem brnew0 (w : World) : Calls Tryz.prog 7 #[.int .i64 0] w fun e w' => ∃ g m, e = .returned (.tuple #[.pointer (some ⟨g, 0, none⟩), .int .i64 0]) ∧ Bro w' w.heap.size g m 20 #[] 0 ∧ Below w.heap.size w w' := by
 have hmm := @run_makeMap Tryz.prog
 go_enter Tryz.func7, Tryz.ntmps7
 go_wp2_with fail
 go_ret2
 exact ⟨w.heap.size + 1, w.heap.size, rfl, ⟨heap_alloc2_new w _ _, heap_alloc2_old w _ _, by omega, by omega⟩, ((Below.refl _ _).alloc (Nat.le_refl _) _).alloc (by simp) _⟩
set_option maxHeartbeats 4000000 in
theorem brnew1 (w : World) : Calls Tryz.prog 7 #[.int .i64 1] w fun e w' => ∃ g m, e = .returned (.tuple #[.pointer (some ⟨g, 0, none⟩), .int .i64 0]) ∧ Bro w' w.heap.size g m 21 #[] 0 ∧ Below w.heap.size w w' := by
 have hmm := @run_makeMap Tryz.prog
 go_enter Tryz.func7, Tryz.ntmps7
 go_wp2_with fail
 go_ret2
 exact ⟨w.heap.size + 1, w.heap.size, rfl, ⟨heap_alloc2_new w _ _, heap_alloc2_old w _ _, by omega, by omega⟩, ((Below.refl _ _).alloc (Nat.le_refl _) _).alloc (by simp) _⟩
theorem brnewx (w : World) (z : Int) (h0 : z ≠ 0) (h1 : z ≠ 1) : Calls Tryz.prog 7 #[.int .i64 z] w fun e w' => e = .returned (.tuple #[.pointer none, .int .i64 2]) ∧ Below w.heap.size w w' := by
 have hmm := @run_makeMap Tryz.prog
 have t0 : (z == 0) = false := by simp [h0]
 have t1 : (z == 1) = false := by simp [h1]
 go_enter Tryz.func7, Tryz.ntmps7
 go_wp2_with fail
 go_ret2
 exact ⟨rfl, ((Below.refl _ _).alloc (Nat.le_refl _) _).alloc (by simp) _⟩
theorem bsub_g {w : World} {a b : Value} {r1 r2 : Rat} {L : Nat} (ha : Ra w a r1 L) (hb : Ra w b r2 L) (h1 : 1 ≤ L) (hL : L ≤ 1000000000000) :
  Calls Tryz.prog 68 #[a, b] w (RgRet w (r1 - r2) (2 * L + 1)) :=
 (rsub_o ha hb h1 (by omega)).mono fun e w' h => h.rg (by omega)
theorem bdiv_x {w : World} {a b : Value} {r1 r2 : Rat} {L : Nat} (ha : Ra w a r1 L) (hb : Ra w b r2 L) (h0 : r2 ≠ 0) (h1 : 1 ≤ L) (hL : L ≤ 1000000000000) :
  Calls Tryz.prog 38 #[a, b] w fun e w' => ∃ x : Rx, e = .returned (.tuple #[rx x, .int .i64 0]) ∧ x.r = r1 / r2 ∧ Rc w' (rx x) x.r (2 * L) ∧ Below w.heap.size w w' := by
 refine (div_r ha hb h0 h1 (by omega)).mono fun e w' h => ?_
 obtain ⟨v, rfl, hc, hb⟩ := h
 obtain ⟨u, t, rfl, ⟨A, c, rfl, g1⟩, ⟨D, d, rfl, g2⟩⟩ := id hc
 exact ⟨⟨_, (A, _, c), (D, _, d), r1 / r2⟩, rfl, rfl, hc, hb⟩
theorem rretpp {fn : Func} {p q : Tmp} (h : fn.results = #[.cell p 43, .cell q 43]) (tmps : Array Value) (w : World) (g g' : Nat) (cs cs' : Array Value) (hs : cs.size = 3) (hs' : cs'.size = 3)
  (hp : tmps.getD p undef = .pointer (some ⟨g, 0, none⟩)) (hq : tmps.getD q undef = .pointer (some ⟨g', 0, none⟩)) (hg : w.heap[g]? = some (.cells cs 43 (0, 0))) (hg' : w.heap[g']? = some (.cells cs' 43 (0, 0))) :
  (results fn tmps).run Tryz.prog w = .ok (.tuple #[.agg cs, .agg cs']) w := by
 have hp' : tmps[p]?.getD undef = .pointer (some ⟨g, 0, none⟩) := by simpa using hp
 have hq' : tmps[q]?.getD undef = .pointer (some ⟨g', 0, none⟩) := by simpa using hq
 simp only [results, h]
 simp [Sem.run_bind, Result.andThen, hp', hq', asAddr, run_loadVar_row (P := Tryz.prog) w g 43 43 cs (0, 0) _ hg Tryz.underlying43 rfl (by rw [hs]; kernel_rfl), run_loadVar_row (P := Tryz.prog) w g' 43 43 cs' (0, 0) _ hg' Tryz.underlying43 rfl (by rw [hs']; kernel_rfl)]
def WyRet (w : World) (r : Rat) (L : Nat) (e : Ending) (w' : World) : Prop :=
 ∃ y z : Rx, e = .returned (.tuple #[rx y, rx z]) ∧ y.r = r ∧ z.r = 1 - r ∧ Rc w' (rx y) y.r L ∧ Rc w' (rx z) z.r (2 * L + 1) ∧ Below w.heap.size w w'
theorem bqc {W : World} {g : Nat} {s : Bool} {u t : Value} (h : Bq W g s u t) : W.cell? ⟨g, 0, none⟩ = some (.bool s) ∧ W.cell? ⟨g, 1, none⟩ = some u ∧ W.cell? ⟨g, 2, none⟩ = some t := ⟨h.all.1, h.all.2.1, h.all.2.2.1⟩
abbrev bput (W : World) (g : Nat) (x : Rx) : World := ((W.setCell ⟨g, 0, none⟩ (.bool x.s)).setCell ⟨g, 1, none⟩ (sv x.u)).setCell ⟨g, 2, none⟩ (sv x.t)
theorem ways_put {w W : World} {y z : Rx} {r : Rat} {L g1 g2 : Nat} (e1 : y.r = r) (e2 : z.r = 1 - r) (hy : Rc W (rx y) y.r L) (hz : Rc W (rx z) z.r (2 * L + 1)) (h1 : Rb W g1) (h2 : Rb W g2) (hne : g2 ≠ g1) (hb : Below w.heap.size w W) (hB1 : w.heap.size ≤ g1) (hB2 : w.heap.size ≤ g2) :
  (bput (bput W g1 y) g2 z).heap[g1]? = some (.cells #[.bool y.s, sv y.u, sv y.t] 43 (0, 0)) ∧ (bput (bput W g1 y) g2 z).heap[g2]? = some (.cells #[.bool z.s, sv z.u, sv z.t] 43 (0, 0)) ∧
   WyRet w r L (.returned (.tuple #[rx y, rx z])) (bput (bput W g1 y) g2 z) := by
 have hn2 : Rb (bput W g1 y) g2 := h2.other hne _ _ _
 have b1 : Bq (bput W g1 y) g1 y.s (sv y.u) (sv y.t) := h1.put _ _ _
 refine ⟨?_, hn2.set _ _ _, y, z, rfl, e1, e2, ?_, ?_, below_put3 (below_put3 hb hB1 _ _ _) hB2 _ _ _⟩
 ·exact ((Below.heap_setCell _ _ _ _ (Ne.symm hne)).trans ((Below.heap_setCell _ _ _ _ (Ne.symm hne)).trans (Below.heap_setCell _ _ _ _ (Ne.symm hne)))).trans b1
 ·exact (hy.grownU (only_put3 _ _ _ _ _) h1.nu).grownU (only_put3 _ _ _ _ _) hn2.nu
 ·exact (hz.grownU (only_put3 _ _ _ _ _) h1.nu).grownU (only_put3 _ _ _ _ _) hn2.nu
set_option maxHeartbeats 8000000 in
theorem ways_c {w : World} {x : Rx} {r : Rat} {L : Nat} (hx : Ra w (rx x) r L) (h1 : 1 ≤ L) (hL : L ≤ 1000000) :
  Calls Tryz.prog 41 #[rx x] w (WyRet w r L) := by
 have b2 : Below w.heap.size w (((w.alloc (rbox x.s (sv x.u) (sv x.t))).alloc rblk).alloc rblk).drew := below_drewN ((((Below.refl _ _).alloc (Nat.le_refl _) _).alloc (by simp) _).alloc (by simp; omega) _) 1
 have P := hide (show Bq (((w.alloc (rbox x.s (sv x.u) (sv x.t))).alloc rblk).alloc rblk).drew w.heap.size x.s (sv x.u) (sv x.t) from (Bq.new w _ _ _).step (below_drewN (((Below.refl _ _).alloc (Nat.le_refl _) rblk).alloc (by simp) rblk) 1))
 have Z1 := hide (show Rb (((w.alloc (rbox x.s (sv x.u) (sv x.t))).alloc rblk).alloc rblk).drew (w.heap.size + 1) by
  have h := (Rb.new (w.alloc (rbox x.s (sv x.u) (sv x.t)))).step ((Below.refl _ _).alloc (Nat.le_refl _) rblk)
  have h2 : Rb (((w.alloc (rbox x.s (sv x.u) (sv x.t))).alloc rblk).alloc rblk) (w.heap.size + 1) := by simpa using h
  exact h2)
 have Z2 := hide (show Rb (((w.alloc (rbox x.s (sv x.u) (sv x.t))).alloc rblk).alloc rblk).drew (w.heap.size + 1 + 1) by
  have h := (Rb.new ((w.alloc (rbox x.s (sv x.u) (sv x.t))).alloc rblk))
  have h2 : Rb (((w.alloc (rbox x.s (sv x.u) (sv x.t))).alloc rblk).alloc rblk) (w.heap.size + 1 + 1) := by simpa using h
  exact h2)
 have H := hide (hx.step b2)
 have B := hide b2
 clear hx b2
 go_enter Tryz.func41, Tryz.ntmps41
 go_wp2_with fail
 generalize (((w.alloc (rbox x.s (sv x.u) (sv x.t))).alloc rblk).alloc rblk) = W0 at *
 obtain ⟨p0, p1, p2⟩ := bqc P.out
 go_region_held3 (fun W => W.cell? ⟨w.heap.size, 0, none⟩ = some (.bool x.s) ∧ W.cell? ⟨w.heap.size, 1, none⟩ = some (sv x.u) ∧ W.cell? ⟨w.heap.size, 2, none⟩ = some (sv x.t))
  (first | with_reducible exact bqc P.out | with_reducible exact ⟨cell_rset (bqc P.out).1 (by simp) _ _ _, cell_rset (bqc P.out).2.1 (by simp) _ _ _, cell_rset (bqc P.out).2.2 (by simp) _ _ _⟩ | with_reducible exact ⟨cell_rset (cell_rset (bqc P.out).1 (by simp) _ _ _) (by simp; omega) _ _ _, cell_rset (cell_rset (bqc P.out).2.1 (by simp) _ _ _) (by simp; omega) _ _ _, cell_rset (cell_rset (bqc P.out).2.2 (by simp) _ _ _) (by simp; omega) _ _ _⟩)
  (first
   | (go_at_call 67; refine Calls.mono (form_g (a := rx x) (r := r) (L := L) H.out h1 (by omega)) ?_; rintro e wx ⟨y, rfl, ey, gy, bx⟩; have EY := hide ey; have Y := hide gy.1; replace P := hide (P.out.step bx); replace Z1 := hide (Z1.out.step bx); replace Z2 := hide (Z2.out.step bx); replace H := hide (H.out.step bx); replace B := hide (Below.step B.out B.out.size bx); clear bx ey gy)
   | (go_at_call 69; refine Calls.mono (whole_o _ 1 (by omega) (by omega)) ?_; rintro e wx ⟨o, rfl, eo, go, bx⟩; have EO := hide eo; have O := hide go.ra; replace Y := hide (Y.out.step bx); replace P := hide (P.out.step bx); replace Z1 := hide (Z1.out.step bx); replace Z2 := hide (Z2.out.step bx); replace H := hide (H.out.step bx); replace B := hide (Below.step B.out B.out.size bx); clear bx eo go)
   | (go_at_call 68; refine Calls.mono (bsub_g (a := rx o) (b := rx x) (r1 := o.r) (r2 := r) (L := L) (O.out.more' h1) H.out h1 (by omega)) ?_; rintro e wx ⟨z, rfl, ez, gz, bx⟩; have EZ := hide (show z.r = 1 - r by rw [ez, EO.out]; rfl); have Z := hide gz.1; replace Y := hide (Y.out.step bx); replace P := hide (P.out.step bx); replace Z1 := hide (Z1.out.step bx); replace Z2 := hide (Z2.out.step bx); replace B := hide (Below.step B.out B.out.size bx); clear bx ez gz H O EO; have q10 := Z1.out.c0; have q11 := Z1.out.c1; have q12 := Z1.out.c2; have q13 := Z1.out.fz 0; have q14 := Z1.out.fz 1; have q15 := Z1.out.fz 2; have Z3 := hide (Rb.other (g := w.heap.size + 1) Z2.out (by omega) (.bool y.s) (sv y.u) (sv y.t)); have q20 := Z3.out.c0; have q21 := Z3.out.c1; have q22 := Z3.out.c2; have q23 := Z3.out.fz 0; have q24 := Z3.out.fz 1; have q25 := Z3.out.fz 2; obtain ⟨f1, f2, f3⟩ := ways_put (L := L) EY.out EZ.out Y.out Z.out Z1.out Z2.out (by omega) B.out (by omega) (by omega); have F1 := hide f1; have F2 := hide f2; have F3 := hide f3; clear f1 f2 f3))
 all_goals
  go_wp2_with fail
  exact bodyPost_ret (rretpp rfl _ _ _ _ #[.bool y.s, sv y.u, sv y.t] #[.bool z.s, sv z.u, sv z.t] rfl rfl rfl rfl F1.out F2.out) rfl F3.out
def ScR (w : World) (q : Rat) (L : Nat) (e : Ending) (w' : World) : Prop := ∃ y : Rx, e = .returned (rx y) ∧ y.r = q ∧ Rc w' (rx y) y.r L ∧ Below w.heap.size w w'
theorem sc_put {w W : World} {y : Rx} {q : Rat} {L g : Nat} (e1 : y.r = q) (hy : Rc W (rx y) y.r L) (h1 : Rb W g) (hb : Below w.heap.size w W) (hB1 : w.heap.size ≤ g) :
  (W.cell? ⟨g, 0, none⟩ = some (.bool false) ∧ W.cell? ⟨g, 1, none⟩ = some (.slice none 0 0) ∧ W.cell? ⟨g, 2, none⟩ = some (.slice none 0 0) ∧
   W.frozen? ⟨g, 0, none⟩ = false ∧ W.frozen? ⟨g, 1, none⟩ = false ∧ W.frozen? ⟨g, 2, none⟩ = false) ∧
  (bput W g y).heap[g]? = some (.cells #[.bool y.s, sv y.u, sv y.t] 43 (0, 0)) ∧ ScR w q L (.returned (rx y)) (bput W g y) :=
 ⟨⟨h1.c0, h1.c1, h1.c2, h1.fz 0, h1.fz 1, h1.fz 2⟩, h1.set _ _ _, y, rfl, e1, hy.grownU (only_put3 _ _ _ _ _) h1.nu, below_put3 hb hB1 _ _ _⟩
def lsr (r : Rat) : Rat := if r < 1 - r then r else 1 - r
theorem bal (W : World) (o : Obj) : Below W.heap.size W (W.alloc o) := (Below.refl _ _).alloc (Nat.le_refl _) _
theorem Rc.moreB {W : World} {v : Value} {q : Rat} {L M : Nat} (h : Rc W v q L) (hL : L ≤ M) : Rc W v q M := h.more hL
set_option maxHeartbeats 8000000 in
theorem lesser_c {w : World} {x : Rx} {r : Rat} {L : Nat} (v : Value) (col : Int) (hx : Ra w (rx x) r L) (h1 : 1 ≤ L) (hL : L ≤ 1000000) :
  Calls Tryz.prog 20 #[v, .int .i64 col, rx x] w (ScR w (lsr r) (2 * L + 1)) := by
 have b2 : Below w.heap.size w ((w.alloc (rbox x.s (sv x.u) (sv x.t))).alloc rblk) := ((Below.refl _ _).alloc (Nat.le_refl _) _).alloc (by simp) _
 have P := hide (show Bq ((w.alloc (rbox x.s (sv x.u) (sv x.t))).alloc rblk) w.heap.size x.s (sv x.u) (sv x.t) from (Bq.new w _ _ _).step (bal _ _))
 have Z := hide (show Rb ((w.alloc (rbox x.s (sv x.u) (sv x.t))).alloc rblk) (w.heap.size + 1) by
  have h := Rb.new (w.alloc (rbox x.s (sv x.u) (sv x.t)))
  have h2 : Rb ((w.alloc (rbox x.s (sv x.u) (sv x.t))).alloc rblk) (w.heap.size + 1) := by simpa using h
  exact h2)
 have H := hide (hx.step b2)
 have B := hide b2
 clear hx b2
 obtain ⟨p0, p1, p2⟩ := bqc P.out
 go_enter Tryz.func20, Tryz.ntmps20
 go_wp2_with fail
 generalize ((w.alloc (rbox x.s (sv x.u) (sv x.t))).alloc rblk) = W0 at *
 refine (ways_c H.out h1 hL).mono ?_
 rintro e w1 ⟨y, z, rfl, ey, ez, cy, cz, bx⟩
 have b3 : Below w1.heap.size w1 ((w1.alloc (rbox y.s (sv y.u) (sv y.t))).alloc (rbox z.s (sv z.u) (sv z.t))) := ((Below.refl _ _).alloc (Nat.le_refl _) _).alloc (by simp) _
 have PY := hide (show Bq ((w1.alloc (rbox y.s (sv y.u) (sv y.t))).alloc (rbox z.s (sv z.u) (sv z.t))) w1.heap.size y.s (sv y.u) (sv y.t) from (Bq.new w1 _ _ _).step (bal _ _))
 have PZ := hide (show Bq ((w1.alloc (rbox y.s (sv y.u) (sv y.t))).alloc (rbox z.s (sv z.u) (sv z.t))) (w1.heap.size + 1) z.s (sv z.u) (sv z.t) by
  have h := Bq.new (w1.alloc (rbox y.s (sv y.u) (sv y.t))) z.s (sv z.u) (sv z.t)
  have h2 : Bq ((w1.alloc (rbox y.s (sv y.u) (sv y.t))).alloc (rbox z.s (sv z.u) (sv z.t))) (w1.heap.size + 1) z.s (sv z.u) (sv z.t) := by simpa using h
  exact h2)
 have CY := hide ((cy.step b3).moreB (M := 2 * L + 1) (by omega))
 have CZ := hide (cz.step b3)
 have EY := hide ey
 have EZ := hide ez
 have LT := hide (show w.heap.size + 1 < w1.heap.size from Nat.lt_of_lt_of_le Z.out.lt bx.size)
 replace Z := hide ((Z.out.step bx).step b3)
 replace B := hide (Below.step (Below.step B.out B.out.size bx) (Below.step B.out B.out.size bx).size b3)
 clear p0 p1 p2 P H ey ez cy cz bx b3
 obtain ⟨p0, p1, p2⟩ := bqc PY.out
 obtain ⟨q0, q1, q2⟩ := bqc PZ.out
 go_wp2_with fail
 generalize ((w1.alloc (rbox y.s (sv y.u) (sv y.t))).alloc (rbox z.s (sv z.u) (sv z.t))) = w2 at *
 refine (cmp_r (r1 := y.r) (r2 := z.r) (L := 2 * L + 1) CY.out.ra CZ.out.ra (by omega) (by omega)).mono ?_
 rintro e w3 ⟨rfl, bx⟩
 have HC := hide (show cmpR y.r z.r = if r < 1 - r then -1 else cmpR y.r z.r by
  rw [EY.out, EZ.out]
  split
  ·rename_i h
   unfold cmpR
   rw [if_pos h]
  ·rfl)
 replace PY := hide (PY.out.step bx)
 replace PZ := hide (PZ.out.step bx)
 replace CY := hide (CY.out.step bx)
 replace CZ := hide (CZ.out.step bx)
 replace Z := hide (Z.out.step bx)
 replace B := hide (Below.step B.out B.out.size bx)
 clear bx p0 p1 p2 q0 q1 q2
 by_cases hlt : r < 1 - r
 ·have t1 : decide (cmpR y.r z.r < 0) = true := by
   have := HC.out
   rw [if_pos hlt] at this
   rw [this]; decide
  obtain ⟨⟨k0, k1, k2, f0, f1, f2⟩, f3, f4⟩ := sc_put (w := w) (q := lsr r) (by rw [EY.out]; unfold lsr; rw [if_pos hlt]) CY.out Z.out B.out (by omega)
  have F3 := hide f3
  have F4 := hide f4
  clear f3 f4 hlt HC
  obtain ⟨p0, p1, p2⟩ := bqc PY.out
  go_wp2_with fail
  exact bodyPost_ret (rret rfl _ _ _ #[.bool y.s, sv y.u, sv y.t] rfl rfl F3.out) rfl F4.out
 ·have t1 : decide (cmpR y.r z.r < 0) = false := by
   rw [EY.out, EZ.out]
   unfold cmpR
   rw [if_neg hlt]
   split <;> decide
  obtain ⟨⟨k0, k1, k2, f0, f1, f2⟩, f3, f4⟩ := sc_put (w := w) (q := lsr r) (by rw [EZ.out]; unfold lsr; rw [if_neg hlt]) CZ.out Z.out B.out (by omega)
  have F3 := hide f3
  have F4 := hide f4
  clear f3 f4 hlt HC
  obtain ⟨p0, p1, p2⟩ := bqc PZ.out
  go_wp2_with fail
  exact bodyPost_ret (rret rfl _ _ _ #[.bool z.s, sv z.u, sv z.t] rfl rfl F3.out) rfl F4.out
end Go.Proofs.YtehdkdoaamlkdaaGreat
