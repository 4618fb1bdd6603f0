/-
  Shared texts, one behind the other: Rat1, Rat2, Rat3, Rat4, Rat5, Rat6, Rat8, Lat, Rat7, Rat9, Rat10.
-/
import Derived.Test.YtehdkdoaamlkdaaGreatBundleC
import Derived.Test.YtehdkdoaamlkdaaGreatBundleE
import Derived.Deep.RegionHeld3
import Derived.Test.YtehdkdoaamlkdaaGreatBundleD

namespace Go.Proofs.YtehdkdoaamlkdaaGreat
open Go.RowKit Go.Proofs.YtehdkdoaamlkdaaGreat.Num
set_option linter.unusedVariables false
set_option maxRecDepth 100000
abbrev rv (s : Bool) (u t : Value) : Value := .agg #[.bool s, u, t]
abbrev rblk : Obj := .cells #[.bool false, .slice none 0 0, .slice none 0 0] 43
abbrev rbox (s : Bool) (u t : Value) : Obj := .cells #[.bool s, u, t] 43
def Rc (w : World) (v : Value) (r : Rat) (L : Nat) : Prop := ∃ u t, v = rv (decide (r.num < 0)) u t ∧ Cw w u r.num.natAbs L ∧ Cw w t r.den L
def Ra (w : World) (v : Value) (r : Rat) (L : Nat) : Prop := ∃ s u t x y, v = rv s u t ∧ Nw w u x L ∧ Nw w t y L ∧ r = mkRat (zi s x) (if y = 0 then 1 else y)
def RRet (w : World) (r : Rat) (L : Nat) (e : Ending) (w' : World) : Prop := ∃ v, e = .returned v ∧ Rc w' v r L ∧ Below w.heap.size w w'
theorem Rc.step {w w' : World} {v : Value} {r : Rat} {L : Nat} (h : Rc w v r L) (hb : Below w.heap.size w w') : Rc w' v r L := by
 obtain ⟨u, t, e, h1, h2⟩ := h
 exact ⟨u, t, e, h1.step hb, h2.step hb⟩
theorem Ra.step {w w' : World} {v : Value} {r : Rat} {L : Nat} (h : Ra w v r L) (hb : Below w.heap.size w w') : Ra w' v r L := by
 obtain ⟨s, u, t, x, y, e, h1, h2, h3⟩ := h
 exact ⟨s, u, t, x, y, e, h1.step hb, h2.step hb, h3⟩
theorem Rc.more {w : World} {v : Value} {r : Rat} {L M : Nat} (h : Rc w v r L) (hL : L ≤ M) : Rc w v r M := by
 obtain ⟨u, t, e, h1, h2⟩ := h
 exact ⟨u, t, e, h1.more hL, h2.more hL⟩
theorem zi_num (z : Int) : zi (decide (z < 0)) z.natAbs = z := by
 unfold zi
 by_cases h : z < 0
 ·rw [decide_eq_true h]; simp only [if_true]; omega
 ·rw [decide_eq_false h]; simp only [Bool.false_eq_true, if_false]; omega
theorem Rc.ra {w : World} {v : Value} {r : Rat} {L : Nat} (h : Rc w v r L) : Ra w v r L := by
 obtain ⟨u, t, e, h1, h2⟩ := h
 refine ⟨_, u, t, _, _, e, h1.nw, h2.nw, ?_⟩
 rw [zi_num, if_neg r.den_nz]
 exact (Rat.mkRat_self r).symm
theorem rret {fn : Func} {p : Tmp} (h : fn.results = #[.cell p 43]) (tmps : Array Value) (w : World) (g : Nat) (cs : Array Value) (hs : cs.size = 3)
  (hp : tmps.getD p undef = .pointer (some ⟨g, 0, none⟩)) (hg : w.heap[g]? = some (.cells cs 43 (0, 0))) : (results fn tmps).run Tryz.prog w = .ok (.agg cs) w :=
 results_cell_row h tmps w g 43 cs (0, 0) _ hp hg Tryz.underlying43 rfl (by rw [hs]; kernel_rfl)
theorem rret2 {fn : Func} {p q : Tmp} (h : fn.results = #[.cell p 43, .tmp q]) (tmps : Array Value) (w : World) (g : Nat) (cs : Array Value) (hs : cs.size = 3)
  (hp : tmps.getD p undef = .pointer (some ⟨g, 0, none⟩)) (hg : w.heap[g]? = some (.cells cs 43 (0, 0))) : (results fn tmps).run Tryz.prog w = .ok (.tuple #[.agg cs, tmps.getD q undef]) w := by
 rw [results_cell_tmp h, hp]
 simp [asAddr, run_loadVar_row (P := Tryz.prog) w g 43 43 cs (0, 0) _ hg Tryz.underlying43 rfl (by rw [hs]; kernel_rfl), Result.andThen]
def Rb (w : World) (g : Nat) : Prop := w.heap[g]? = some rblk
theorem Rb.new (w : World) : Rb (w.alloc rblk) w.heap.size := heap_alloc_new _ _
theorem Rb.lt {w : World} {g : Nat} (h : Rb w g) : g < w.heap.size := by have h1 := h; unfold Rb at h1; exact (Array.getElem?_eq_some_iff.1 h1).1
theorem Rb.step {w w' : World} {g : Nat} (h : Rb w g) (hb : Below w.heap.size w w') : Rb w' g := (hb.block g h.lt).trans h
theorem Rb.c0 {w : World} {g : Nat} (h : Rb w g) : w.cell? ⟨g, 0, none⟩ = some (.bool false) := cell_of_row w g 0 _ _ _ h
theorem Rb.c1 {w : World} {g : Nat} (h : Rb w g) : w.cell? ⟨g, 1, none⟩ = some (.slice none 0 0) := cell_of_row w g 1 _ _ _ h
theorem Rb.c2 {w : World} {g : Nat} (h : Rb w g) : w.cell? ⟨g, 2, none⟩ = some (.slice none 0 0) := cell_of_row w g 2 _ _ _ h
theorem Rb.fz {w : World} {g : Nat} (h : Rb w g) (j : Nat) : w.frozen? ⟨g, j, none⟩ = false := frozen_of_row w g j _ _ h
theorem Rb.set {w : World} {g : Nat} (h : Rb w g) (a b c : Value) : (((w.setCell ⟨g, 0, none⟩ a).setCell ⟨g, 1, none⟩ b).setCell ⟨g, 2, none⟩ c).heap[g]? = some (.cells #[a, b, c] 43 (0, 0)) :=
 heap_setCell_same _ g 2 _ _ c (heap_setCell_same _ g 1 _ _ b (heap_setCell_same w g 0 _ _ a h))
theorem Rd.rset {k : IntKind} {w : World} {B n g : Nat} {A : Option Addr} {xs : List Nat} {T : TypeId} (h : Rd k w B A n xs) (hz : w.heap[g]? = some (.cells #[.bool false, .slice none 0 0, .slice none 0 0] T (0, 0))) (a b c : Value) :
  Rd k (((w.setCell ⟨g, 0, none⟩ a).setCell ⟨g, 1, none⟩ b).setCell ⟨g, 2, none⟩ c) B A n xs := by
 refine ⟨h.1, fun hn => ?_⟩
 obtain ⟨bb, off, e, hb, hc⟩ := h.2 hn
 refine ⟨bb, off, e, hb, fun j hj => ?_⟩
 have hne : bb ≠ g := by
  rintro rfl
  have h1 := hc 0 hn
  rw [Nat.add_zero, cell_of_row w bb off _ _ _ hz] at h1
  match off, h1 with
  | 0, h1 => simp at h1
  | 1, h1 => simp at h1
  | 2, h1 => simp at h1
  | (k + 3), h1 => simp at h1
 rw [World.cell?_setCell_other _ _ _ _ (by intro h2; apply hne; injection h2 with h3; exact h3.symm), World.cell?_setCell_other _ _ _ _ (by intro h2; apply hne; injection h2 with h3; exact h3.symm), World.cell?_setCell_other _ _ _ _ (by intro h2; apply hne; injection h2 with h3; exact h3.symm)]
 exact hc j hj
theorem size_rset (w : World) (g : Nat) (a b c : Value) : (((w.setCell ⟨g, 0, none⟩ a).setCell ⟨g, 1, none⟩ b).setCell ⟨g, 2, none⟩ c).heap.size = w.heap.size := by simp only [World.size_setCell]
theorem Cw.rset {w : World} {v : Value} {x L g : Nat} {T : TypeId} (h : Cw w v x L) (hz : w.heap[g]? = some (.cells #[.bool false, .slice none 0 0, .slice none 0 0] T (0, 0))) (a b c : Value) : Cw (((w.setCell ⟨g, 0, none⟩ a).setCell ⟨g, 1, none⟩ b).setCell ⟨g, 2, none⟩ c) v x L := by
 obtain ⟨A, k, e, h1, h2⟩ := h
 exact ⟨A, k, e, by rw [size_rset]; exact h1.rset hz a b c, h2⟩
theorem mk_num {x y : Nat} {s : Bool} (hy : 0 < y) : (mkRat (zi s x) y).num = zi s (x / Nat.gcd x y) ∧ (mkRat (zi s x) y).den = y / Nat.gcd x y := by
 have hn : (zi s x).natAbs = x := zi_abs s x
 have hd : (Nat.gcd x y) ∣ x := Nat.gcd_dvd_left x y
 constructor
 ·simp only [mkRat, Nat.ne_of_gt hy, dite_false, Rat.normalize_eq, hn]
  unfold zi
  cases s
  ·simp only [Bool.false_eq_true, if_false]
   exact (Int.natCast_ediv x _).symm
  ·simp only [if_true]
   rw [Int.neg_ediv_of_dvd (Int.natCast_dvd_natCast.2 hd), Int.natCast_ediv]
 ·simp only [mkRat, Nat.ne_of_gt hy, dite_false, Rat.normalize_eq, hn]
theorem r_fit {w0 w : World} {v t : Value} {s : Bool} {x y L g : Nat} {r : Rat} (h : Zc w v s x L) (ht : Cw w t y L) (hz : Rb w g) (hg0 : w0.heap.size ≤ g) (hb : Below w0.heap.size w0 w) (hn : r.num = zi s x) (hd : r.den = y) :
  ∃ sg A n c D m d, v = zv sg (.slice A n c) ∧ t = .slice D m d ∧ w.cell? ⟨g, 0, none⟩ = some (.bool false) ∧ w.cell? ⟨g, 1, none⟩ = some (.slice none 0 0) ∧ w.cell? ⟨g, 2, none⟩ = some (.slice none 0 0) ∧
   w.frozen? ⟨g, 0, none⟩ = false ∧ w.frozen? ⟨g, 1, none⟩ = false ∧ w.frozen? ⟨g, 2, none⟩ = false ∧
   ((((w.setCell ⟨g, 0, none⟩ (.bool sg)).setCell ⟨g, 1, none⟩ (.slice A n c)).setCell ⟨g, 2, none⟩ (.slice D m d)).heap[g]? = some (.cells #[.bool sg, .slice A n c, .slice D m d] 43 (0, 0)) ∧
    RRet w0 r L (.returned (rv sg (.slice A n c) (.slice D m d))) (((w.setCell ⟨g, 0, none⟩ (.bool sg)).setCell ⟨g, 1, none⟩ (.slice A n c)).setCell ⟨g, 2, none⟩ (.slice D m d))) := by
 obtain ⟨u, rfl, hc⟩ := h
 obtain ⟨A, c, rfl, -⟩ := id hc
 obtain ⟨D, d, rfl, -⟩ := id ht
 have e1 : r.num.natAbs = x := by rw [hn, zi_abs]
 refine ⟨_, A, _, c, D, _, d, rfl, rfl, hz.c0, hz.c1, hz.c2, hz.fz 0, hz.fz 1, hz.fz 2, hz.set _ _ _, _, rfl, ⟨.slice A (cn Q x).length c, .slice D (cn Q y).length d, ?_, ?_, ?_⟩, ((hb.setCell hg0 _).setCell hg0 _).setCell hg0 _⟩
 ·rw [hn, ← zi_neg]
 ·rw [e1]; exact hc.rset hz _ _ _
 ·rw [hd]; exact ht.rset hz _ _ _
set_option maxHeartbeats 2000000 in
theorem reduce_any {w : World} {s : Bool} {u v : Value} {x y L : Nat} (hu : Nw w u x L) (hv : Nw w v y L) (hy : 0 < y) (hL : L ≤ 17592186044000) :
  Calls Tryz.prog 79 #[.bool s, u, v] w (RRet w (mkRat (zi s x) y) L) := by
 have a0 : Below w.heap.size w (w.alloc rblk) := (Below.refl _ _).alloc (Nat.le_refl _) _
 obtain ⟨hn, hd⟩ := mk_num (s := s) (x := x) hy
 have HN := hide hn
 have HD := hide hd
 have HG := hide (Nat.gcd_pos_of_pos_right x hy)
 have U := hide (hu.step a0)
 have V := hide (hv.step a0)
 have B := hide a0
 have Z := hide (Rb.new w)
 clear hu hv a0 hn hd hy
 go_enter Tryz.func79, Tryz.ntmps79
 go_wp2_with fail
 refine (gcd_c U.out V.out hL).mono ?_
 rintro e w1 ⟨g, rfl, -, cg, b⟩
 have U := hide (U.out.step b)
 have V := hide (V.out.step b)
 have B := hide (Below.step B.out B.out.size b)
 have Z := hide (Z.out.step b)
 have CG := hide cg
 clear b cg
 go_wp2_with fail
 refine (ndivmod U.out CG.out.nw hL HG.out).mono ?_
 rintro e w2 ⟨q1, r1, rfl, -, -, -, c1, -, b⟩
 have V := hide (V.out.step b)
 have CG := hide (CG.out.step b)
 have B := hide (Below.step B.out B.out.size b)
 have Z := hide (Z.out.step b)
 have C1 := hide c1
 clear b c1 U
 go_wp2_with fail
 refine (ndivmod V.out CG.out.nw hL HG.out).mono ?_
 rintro e w3 ⟨q2, r2, rfl, -, -, -, c2, -, b⟩
 have C1 := hide (C1.out.step b)
 have B := hide (Below.step B.out B.out.size b)
 have Z := hide (Z.out.step b)
 have C2 := hide c2
 clear b c2 V CG
 go_wp2_with fail
 refine (make_any (s := s) C1.out.nw hL).mono ?_
 rintro e w4 ⟨v4, rfl, z4, b⟩
 obtain ⟨sg, A, n, c, D, m, d, rfl, rfl, k0, k1, k2, f0, f1, f2, fin⟩ := r_fit (w0 := w) z4 (C2.out.step b) (Z.out.step b) (Nat.le_refl _) (Below.step B.out B.out.size b) HN.out HD.out
 have F := hide fin
 clear fin b z4 C1 C2 B Z
 go_wp2_with fail
 exact bodyPost_ret (rret rfl _ _ w.heap.size #[.bool sg, .slice A n c, .slice D m d] rfl rfl F.out.1) rfl F.out.2
def Fx (w : World) (g : Nat) (s : Bool) (A : Option Addr) (n c : Nat) (D : Option Addr) (m d : Nat) : Prop :=
 w.cell? ⟨g, 0, none⟩ = some (.bool s) ∧ w.cell? ⟨g, 1, none⟩ = some (.slice A n c) ∧ w.cell? ⟨g, 2, none⟩ = some (.slice D m d)
theorem Fx.step {w w' : World} {g : Nat} {s : Bool} {A : Option Addr} {n c : Nat} {D : Option Addr} {m d : Nat} (h : Fx w g s A n c D m d) (hb : Below w.heap.size w w') : Fx w' g s A n c D m d :=
 ⟨cell_keep h.1 hb, cell_keep h.2.1 hb, cell_keep h.2.2 hb⟩
theorem fbox1 (w : World) (s : Bool) (A : Option Addr) (n c : Nat) (D : Option Addr) (m d : Nat) :
  Below w.heap.size w (w.alloc (rbox s (.slice A n c) (.slice D m d))) ∧ Fx (w.alloc (rbox s (.slice A n c) (.slice D m d))) w.heap.size s A n c D m d := by
 refine ⟨(Below.refl _ _).alloc (Nat.le_refl _) _, ?_, ?_, ?_⟩ <;> go_simp
def dn (y : Nat) : Nat := if y = 0 then 1 else y
theorem dn_pos (y : Nat) : 0 < dn y := by unfold dn; split <;> omega
theorem dn_of {y : Nat} (h : y ≠ 0) : dn y = y := by unfold dn; rw [if_neg h]
set_option maxHeartbeats 2000000 in
theorem under_any {w : World} {s : Bool} {u t : Value} {x y L : Nat} (hu : Nw w u x L) (ht : Nw w t y L) (h1 : 1 ≤ L) (hL : L ≤ 17592186044000) :
  Calls Tryz.prog 45 #[rv s u t] w fun e w' => ∃ A n c, e = .returned (zv false (.slice A n c)) ∧ Nw w' (.slice A n c) (dn y) L ∧ Below w.heap.size w w' := by
 obtain ⟨A, n, c, rfl⟩ := hu.slice
 obtain ⟨D, m, d, rfl⟩ := ht.slice
 obtain ⟨b1, f1⟩ := fbox1 w s A n c D m d
 have b2 : Below w.heap.size w ((w.alloc (rbox s (.slice A n c) (.slice D m d))).alloc zblk) := b1.alloc (by simp) _
 have hz : Zb ((w.alloc (rbox s (.slice A n c) (.slice D m d))).alloc zblk) (w.heap.size + 1) := by have h := Zb.new (w.alloc (rbox s (.slice A n c) (.slice D m d))); simpa using h
 have p2 : ((w.alloc (rbox s (.slice A n c) (.slice D m d))).alloc zblk).cell? ⟨w.heap.size, 2, none⟩ = some (.slice D m d) := by go_simp
 have HT := hide (ht.step b2)
 have HB := hide b2
 have HZ := hide hz
 have HS := hide (show w.heap.size + 1 < ((w.alloc (rbox s (.slice A n c) (.slice D m d))).alloc zblk).heap.size by simp)
 obtain ⟨b, hb⟩ := isBits_ex y
 have NB := hide (nbits_s (ht.step b2) hb (by omega))
 have hb0 : y = 0 ↔ b = 0 := by
  constructor
  ·intro h0; subst h0
   exact hb.one IsBits.zero
  ·intro h0; subst h0
   have := hb.1
   omega
 have b3 : Below w.heap.size w ((w.alloc (rbox s (.slice A n c) (.slice D m d))).alloc (zbox false (.slice D m d))) := b1.alloc (by simp) _
 have hn : ((w.alloc (rbox s (.slice A n c) (.slice D m d))).alloc (zbox false (.slice D m d))).heap[w.heap.size + 1]? = some (.cells #[.bool false, .slice D m d] 41 (0, 0)) := by have h := heap_alloc_new (w.alloc (rbox s (.slice A n c) (.slice D m d))) (zbox false (.slice D m d)); simpa using h
 have HF := hide (And.intro hn (And.intro (ht.step b3) b3))
 clear hu ht b1 b2 hz f1 hb b3 hn
 by_cases hy : y = 0
 ·obtain rfl : b = 0 := hb0.1 hy
  subst hy
  clear hb0
  go_enter Tryz.func45, Tryz.ntmps45
  go_wp2_with fail
  refine NB.out.mono ?_
  rintro e w' ⟨rfl, rfl⟩
  go_wp2_with fail
  generalize hW0 : (w.alloc (rbox s (.slice A n c) (.slice D m d))).alloc zblk = W0 at *
  refine (zof_any W0 1 (by omega) (by omega)).mono ?_
  rintro e w1 ⟨v, rfl, z1, b1⟩
  obtain ⟨sg, A1, n1, c1, rfl, k0, k1, f0, f1, fin⟩ := ret_fit (w0 := w) z1 (HZ.out.step HS.out b1) (by omega) (Below.step HB.out HB.out.size b1)
  have F := hide fin
  clear fin z1 b1 HZ HB HS HT NB p2 hW0 HF
  go_wp2_with fail
  refine bodyPost_ret (zret rfl _ _ _ #[.bool sg, .slice A1 n1 c1] rfl rfl F.out.1) rfl ?_
  obtain ⟨-, v, e, ⟨u2, e2, c2⟩, hb⟩ := F.out
  injection e with e
  rw [e2] at e
  injection e with e
  have e3 : sg = false ∧ Value.slice A1 n1 c1 = u2 := by simpa using e
  obtain ⟨rfl, rfl⟩ := e3
  exact ⟨A1, n1, c1, rfl, (c2.more h1).nw, hb⟩
 ·have hbn : ((b : Int) == 0) = false := beq_eq_false_iff_ne.2 (by have := (not_congr hb0).1 hy; omega)
  have F := HF
  have HD := hide (dn_of hy)
  clear hb0 hy HZ HB HS HT HF
  go_enter Tryz.func45, Tryz.ntmps45
  go_wp2_with fail
  refine NB.out.mono ?_
  rintro e w' ⟨rfl, rfl⟩
  clear NB
  go_wp2_with fail
  refine bodyPost_ret (zret rfl _ _ _ #[.bool false, .slice D m d] rfl rfl F.out.1) rfl ?_
  exact ⟨D, m, d, rfl, by rw [HD.out]; exact F.out.2.1, F.out.2.2⟩
theorem rret_fit {w0 w : World} {v : Value} {r : Rat} {L g : Nat} (h : Rc w v r L) (hz : Rb w g) (hg0 : w0.heap.size ≤ g) (hb : Below w0.heap.size w0 w) :
  ∃ sg A n c D m d, v = rv sg (.slice A n c) (.slice D m d) ∧ w.cell? ⟨g, 0, none⟩ = some (.bool false) ∧ w.cell? ⟨g, 1, none⟩ = some (.slice none 0 0) ∧ w.cell? ⟨g, 2, none⟩ = some (.slice none 0 0) ∧
   w.frozen? ⟨g, 0, none⟩ = false ∧ w.frozen? ⟨g, 1, none⟩ = false ∧ w.frozen? ⟨g, 2, none⟩ = false ∧
   ((((w.setCell ⟨g, 0, none⟩ (.bool sg)).setCell ⟨g, 1, none⟩ (.slice A n c)).setCell ⟨g, 2, none⟩ (.slice D m d)).heap[g]? = some (.cells #[.bool sg, .slice A n c, .slice D m d] 43 (0, 0)) ∧
    RRet w0 r L (.returned (rv sg (.slice A n c) (.slice D m d))) (((w.setCell ⟨g, 0, none⟩ (.bool sg)).setCell ⟨g, 1, none⟩ (.slice A n c)).setCell ⟨g, 2, none⟩ (.slice D m d))) := by
 obtain ⟨u, t, rfl, hc, ht⟩ := h
 obtain ⟨A, c, rfl, -⟩ := id hc
 obtain ⟨D, d, rfl, -⟩ := id ht
 exact ⟨_, A, _, c, D, _, d, rfl, hz.c0, hz.c1, hz.c2, hz.fz 0, hz.fz 1, hz.fz 2, hz.set _ _ _, _, rfl, ⟨.slice A (cn Q r.num.natAbs).length c, .slice D (cn Q r.den).length d, rfl, hc.rset hz _ _ _, ht.rset hz _ _ _⟩, ((hb.setCell hg0 _).setCell hg0 _).setCell hg0 _⟩
set_option maxHeartbeats 2000000 in
theorem over_any {w : World} {s t : Bool} {u v : Value} {x y L : Nat} (hu : Nw w u x L) (hv : Nw w v y L) (hy : 0 < y) (hL : L ≤ 17592186044000) :
  Calls Tryz.prog 47 #[zv s u, zv t v] w (RRet w (mkRat (zi s x) y) L) := by
 obtain ⟨A, n, c, rfl⟩ := hu.slice
 obtain ⟨D, m, d, rfl⟩ := hv.slice
 obtain ⟨b2, y1, y2⟩ := box2 w s t A D n c m d
 have b3 : Below w.heap.size w (((w.alloc (zbox s (.slice A n c))).alloc (zbox t (.slice D m d))).alloc rblk) := b2.alloc (by simp; omega) _
 have hz : Rb (((w.alloc (zbox s (.slice A n c))).alloc (zbox t (.slice D m d))).alloc rblk) (w.heap.size + 1 + 1) := by have h := Rb.new ((w.alloc (zbox s (.slice A n c))).alloc (zbox t (.slice D m d))); simpa using h
 have RC := hide (reduce_any (s := s) (hu.step b3) (hv.step b3) hy hL)
 have HB := hide b3
 have HZ := hide hz
 clear hu hv b2 b3 y1 y2 hz hy
 go_enter Tryz.func47, Tryz.ntmps47
 go_wp2_with fail
 refine RC.out.mono ?_
 rintro e w1 ⟨r, rfl, c1, b1⟩
 obtain ⟨sg, A1, n1, c1', D1, m1, d1, rfl, k0, k1, k2, f0, f1, f2, fin⟩ := rret_fit (w0 := w) c1 (HZ.out.step b1) (by omega) (Below.step HB.out HB.out.size b1)
 have F := hide fin
 clear fin RC b1 c1 HZ HB
 go_wp2_with fail
 exact bodyPost_ret (rret rfl _ _ _ #[.bool sg, .slice A1 n1 c1', .slice D1 m1 d1] rfl rfl F.out.1) rfl F.out.2
theorem cell_rset {W : World} {p : Addr} {v : Value} {g : Nat} (h : W.cell? p = some v) (hp : p.block ≠ g) (a b c : Value) : (((W.setCell ⟨g, 0, none⟩ a).setCell ⟨g, 1, none⟩ b).setCell ⟨g, 2, none⟩ c).cell? p = some v := by
 rw [World.cell?_setCell_other _ _ _ _ (by rintro rfl; exact hp rfl), World.cell?_setCell_other _ _ _ _ (by rintro rfl; exact hp rfl), World.cell?_setCell_other _ _ _ _ (by rintro rfl; exact hp rfl)]
 exact h
theorem Ra.parts {w : World} {v : Value} {r : Rat} {L : Nat} (h : Ra w v r L) : ∃ s A n c D m d x y, v = rv s (.slice A n c) (.slice D m d) ∧ Nw w (.slice A n c) x L ∧ Nw w (.slice D m d) y L ∧ r = mkRat (zi s x) (dn y) := by
 obtain ⟨s, u, t, x, y, rfl, h1, h2, h3⟩ := h
 obtain ⟨A, n, c, rfl⟩ := h1.slice
 obtain ⟨D, m, d, rfl⟩ := h2.slice
 exact ⟨s, A, n, c, D, m, d, x, y, rfl, h1, h2, h3⟩
theorem dn_lt {y L : Nat} (h : y < Q ^ L) (h1 : 1 ≤ L) : dn y < Q ^ L := by
 unfold dn
 split
 ·exact Nat.lt_of_lt_of_le (show 1 < Q ^ 1 by rw [Nat.pow_one]; have := Q_two; omega) (Nat.pow_le_pow_right Q_pos h1)
 ·exact h
theorem under_a {w : World} {s : Bool} {A D : Option Addr} {n c m d : Nat} {x y L : Nat} (hu : Nw w (.slice A n c) x L) (ht : Nw w (.slice D m d) y L) (h1 : 1 ≤ L) (hL : L ≤ 17592186044000) :
  Calls Tryz.prog 45 #[rv s (.slice A n c) (.slice D m d)] w fun e w' => ∃ v, e = .returned v ∧ Za w' v (dn y : Int) L ∧ Below w.heap.size w w' :=
 (under_any hu ht h1 hL).mono fun e w' ⟨A', n', c', he, hn, hb⟩ => ⟨_, he, ⟨false, _, _, rfl, hn, rfl⟩, hb⟩
theorem over_a {w : World} {u v : Value} {p : Int} {q L : Nat} (hu : Za w u p L) (hv : Za w v (q : Int) L) (hq : 0 < q) (hL : L ≤ 17592186044000) :
  Calls Tryz.prog 47 #[u, v] w (RRet w (mkRat p q) L) := by
 obtain ⟨s, u, x, rfl, hu, rfl⟩ := hu
 obtain ⟨t, v, y, rfl, hv, hy⟩ := hv
 have e : y = q := by have := zi_abs t y; rw [hy] at this; omega
 subst e
 exact over_any hu hv hq hL
theorem f_world1 (w : World) (s : Bool) (A D : Option Addr) (n c m d : Nat) :
  Below w.heap.size w ((w.alloc (rbox s (.slice A n c) (.slice D m d))).alloc rblk).drew ∧ Rb ((w.alloc (rbox s (.slice A n c) (.slice D m d))).alloc rblk).drew (w.heap.size + 1) ∧ Fx ((w.alloc (rbox s (.slice A n c) (.slice D m d))).alloc rblk).drew w.heap.size s A n c D m d := by
 refine ⟨below_drewN (((Below.refl _ _).alloc (Nat.le_refl _) _).alloc (by simp) _) 1, ?_, ?_, ?_, ?_⟩
 ·have h := Rb.new (w.alloc (rbox s (.slice A n c) (.slice D m d)))
  have h2 : Rb ((w.alloc (rbox s (.slice A n c) (.slice D m d))).alloc rblk) (w.heap.size + 1) := by simpa using h
  exact h2
 all_goals go_simp
theorem f_world2 (w : World) (s t : Bool) (A D F H : Option Addr) (n c m d k f l h : Nat) :
  Below w.heap.size w (((w.alloc (rbox s (.slice A n c) (.slice D m d))).alloc (rbox t (.slice F k f) (.slice H l h))).alloc rblk).drew ∧ Rb (((w.alloc (rbox s (.slice A n c) (.slice D m d))).alloc (rbox t (.slice F k f) (.slice H l h))).alloc rblk).drew (w.heap.size + 1 + 1) ∧
   Fx (((w.alloc (rbox s (.slice A n c) (.slice D m d))).alloc (rbox t (.slice F k f) (.slice H l h))).alloc rblk).drew w.heap.size s A n c D m d ∧ Fx (((w.alloc (rbox s (.slice A n c) (.slice D m d))).alloc (rbox t (.slice F k f) (.slice H l h))).alloc rblk).drew (w.heap.size + 1) t F k f H l h := by
 refine ⟨below_drewN ((((Below.refl _ _).alloc (Nat.le_refl _) _).alloc (by simp) _).alloc (by simp; omega) _) 1, ?_, ⟨?_, ?_, ?_⟩, ?_, ?_, ?_⟩
 ·have h9 := Rb.new ((w.alloc (rbox s (.slice A n c) (.slice D m d))).alloc (rbox t (.slice F k f) (.slice H l h)))
  have h2 : Rb (((w.alloc (rbox s (.slice A n c) (.slice D m d))).alloc (rbox t (.slice F k f) (.slice H l h))).alloc rblk) (w.heap.size + 1 + 1) := by simpa using h9
  exact h2
 all_goals go_simp
theorem lt_mk (p1 p2 : Int) (q1 q2 : Nat) (h1 : 0 < q1) (h2 : 0 < q2) : mkRat p1 q1 < mkRat p2 q2 ↔ p1 * q2 < p2 * q1 := by
 have c1 : (0 : Rat) < q1 := Rat.natCast_pos.2 h1
 have c2 : (0 : Rat) < q2 := Rat.natCast_pos.2 h2
 have e : ((p2 : Rat) / q2 * q1) = (p2 * q1) / q2 := by grind
 rw [Rat.mkRat_eq_div, Rat.mkRat_eq_div, Rat.div_lt_iff c1, e, Rat.lt_div_iff c2]
 rw [← Rat.intCast_natCast, ← Rat.intCast_natCast, ← Rat.intCast_mul, ← Rat.intCast_mul, Rat.intCast_lt_intCast]
def cmpR (a b : Rat) : Int := if a < b then -1 else if b < a then 1 else 0
theorem cmpR_mk (p1 p2 : Int) (q1 q2 : Nat) (h1 : 0 < q1) (h2 : 0 < q2) : cmpZ (p1 * q2) (p2 * q1) = cmpR (mkRat p1 q1) (mkRat p2 q2) := by
 unfold cmpZ cmpR
 simp only [lt_mk p1 p2 q1 q2 h1 h2, lt_mk p2 p1 q2 q1 h2 h1]
theorem prod_lt {a b : Int} {L : Nat} (ha : a.natAbs < Q ^ L) (hb : b.natAbs < Q ^ L) : (a * b).natAbs < Q ^ (2 * L) := by
 rw [Int.natAbs_mul, show 2 * L = L + L by omega, Nat.pow_add]
 exact Nat.mul_lt_mul'' ha hb
theorem f_world0 (w : World) (s t : Bool) (A D F H : Option Addr) (n c m d k f l h : Nat) :
  Below w.heap.size w ((w.alloc (rbox s (.slice A n c) (.slice D m d))).alloc (rbox t (.slice F k f) (.slice H l h))).drew ∧ Fx ((w.alloc (rbox s (.slice A n c) (.slice D m d))).alloc (rbox t (.slice F k f) (.slice H l h))).drew w.heap.size s A n c D m d ∧ Fx ((w.alloc (rbox s (.slice A n c) (.slice D m d))).alloc (rbox t (.slice F k f) (.slice H l h))).drew (w.heap.size + 1) t F k f H l h := by
 refine ⟨below_drewN (((Below.refl _ _).alloc (Nat.le_refl _) _).alloc (by simp) _) 1, ⟨?_, ?_, ?_⟩, ?_, ?_, ?_⟩ <;> go_simp
set_option maxHeartbeats 4000000 in
theorem cmp_r {w : World} {a b : Value} {r1 r2 : Rat} {L : Nat} (ha : Ra w a r1 L) (hb : Ra w b r2 L) (h1 : 1 ≤ L) (hL : 2 * L ≤ 17592186044000) :
  Calls Tryz.prog 24 #[a, b] w fun e w' => e = .returned (.int .i64 (cmpR r1 r2)) ∧ Below w.heap.size w w' := by
 obtain ⟨s, A, n, c, D, m, d, x, y, rfl, hu, ht, rfl⟩ := ha.parts
 obtain ⟨t, F, k, f, H, l, h, z, v, rfl, hv, hw, rfl⟩ := hb.parts
 have px : (zi s x).natAbs < Q ^ L := by rw [zi_abs]; exact hu.lt
 have pz : (zi t z).natAbs < Q ^ L := by rw [zi_abs]; exact hv.lt
 have py : ((dn y : Nat) : Int).natAbs < Q ^ L := by rw [Int.natAbs_natCast]; exact dn_lt ht.lt h1
 have pv : ((dn v : Nat) : Int).natAbs < Q ^ L := by rw [Int.natAbs_natCast]; exact dn_lt hw.lt h1
 have KP := hide (prod_lt px pv)
 have KQ := hide (prod_lt pz py)
 have HC := hide (cmpR_mk (zi s x) (zi t z) (dn y) (dn v) (dn_pos y) (dn_pos v))
 obtain ⟨b2, ⟨p0, p1, p2⟩, q0, q1, q2⟩ := f_world0 w s t A D F H n c m d k f l h
 have nu : Nw ((w.alloc (rbox s (.slice A n c) (.slice D m d))).alloc (rbox t (.slice F k f) (.slice H l h))).drew (.slice A n c) x L := hu.step b2
 have nt : Nw ((w.alloc (rbox s (.slice A n c) (.slice D m d))).alloc (rbox t (.slice F k f) (.slice H l h))).drew (.slice D m d) y L := ht.step b2
 have nv : Nw ((w.alloc (rbox s (.slice A n c) (.slice D m d))).alloc (rbox t (.slice F k f) (.slice H l h))).drew (.slice F k f) z L := hv.step b2
 have nw : Nw ((w.alloc (rbox s (.slice A n c) (.slice D m d))).alloc (rbox t (.slice F k f) (.slice H l h))).drew (.slice H l h) v L := hw.step b2
 have za : Za ((w.alloc (rbox s (.slice A n c) (.slice D m d))).alloc (rbox t (.slice F k f) (.slice H l h))).drew (zv s (.slice A n c)) (zi s x) L := Za.of nu
 have zb : Za ((w.alloc (rbox s (.slice A n c) (.slice D m d))).alloc (rbox t (.slice F k f) (.slice H l h))).drew (zv t (.slice F k f)) (zi t z) L := Za.of nv
 have B := hide b2
 clear ha hb hu ht hv hw b2 px pz py pv
 obtain ⟨o, ho⟩ : ∃ o, cmpR (mkRat (zi s x) (dn y)) (mkRat (zi t z) (dn v)) = o := ⟨_, rfl⟩
 rw [ho] at HC ⊢
 clear ho
 go_enter Tryz.func24, Tryz.ntmps24
 go_wp2_with fail
 generalize hW0 : ((w.alloc (rbox s (.slice A n c) (.slice D m d))).alloc (rbox t (.slice F k f) (.slice H l h))) = W0 at *
 go_region_held3 (fun W => W.cell? ⟨w.heap.size, 0, none⟩ = some (.bool s) ∧ W.cell? ⟨w.heap.size, 1, none⟩ = some (.slice A n c) ∧ W.cell? ⟨w.heap.size, 2, none⟩ = some (.slice D m d) ∧ W.cell? ⟨w.heap.size + 1, 0, none⟩ = some (.bool t) ∧ W.cell? ⟨w.heap.size + 1, 1, none⟩ = some (.slice F k f) ∧ W.cell? ⟨w.heap.size + 1, 2, none⟩ = some (.slice H l h))
  (first | with_reducible exact ⟨p0, p1, p2, q0, q1, q2⟩ | (refine ⟨?_, ?_, ?_, ?_, ?_, ?_⟩ <;> (repeat (first | (with_reducible assumption) | (with_reducible refine cell_keep ?_ (by with_reducible assumption)) | (with_reducible refine cell_rset ?_ (by simp <;> omega) _ _ _)))))
  (first
    | (go_at_call 45; refine Calls.mono (under_a (x := x) (y := y) (L := L) ?_ ?_ h1 (by omega)) ?_; (focus ((repeat (first | (with_reducible assumption) | (with_reducible refine Nw.step ?_ (by with_reducible assumption)))); done)); (focus ((repeat (first | (with_reducible assumption) | (with_reducible refine Nw.step ?_ (by with_reducible assumption)))); done)); rintro e wx ⟨vx, rfl, tx, bx⟩)
    | (go_at_call 45; refine Calls.mono (under_a (x := z) (y := v) (L := L) ?_ ?_ h1 (by omega)) ?_; (focus ((repeat (first | (with_reducible assumption) | (with_reducible refine Nw.step ?_ (by with_reducible assumption)))); done)); (focus ((repeat (first | (with_reducible assumption) | (with_reducible refine Nw.step ?_ (by with_reducible assumption)))); done)); rintro e wx ⟨vx, rfl, tx, bx⟩)
    | (go_at_call 49; refine Calls.mono (zmul_a (a := zi s x) (b := (dn v : Int)) (L := L) (M := L) (K := 2 * L) ?_ ?_ (by omega) (by omega) KP.out) ?_; (focus ((repeat (first | (with_reducible assumption) | (with_reducible refine Za.step ?_ (by with_reducible assumption)))); done)); (focus ((repeat (first | (with_reducible assumption) | (with_reducible refine Za.step ?_ (by with_reducible assumption)))); done)); rintro e wx ⟨vx, rfl, tx, bx⟩; replace tx := Zi.za tx)
    | (go_at_call 49; refine Calls.mono (zmul_a (a := zi t z) (b := (dn y : Int)) (L := L) (M := L) (K := 2 * L) ?_ ?_ (by omega) (by omega) KQ.out) ?_; (focus ((repeat (first | (with_reducible assumption) | (with_reducible refine Za.step ?_ (by with_reducible assumption)))); done)); (focus ((repeat (first | (with_reducible assumption) | (with_reducible refine Za.step ?_ (by with_reducible assumption)))); done)); rintro e wx ⟨vx, rfl, tx, bx⟩; replace tx := Zi.za tx)
    | (go_at_call 48; refine Calls.mono (zcmp_any (a := zi s x * (dn v : Int)) (b := zi t z * (dn y : Int)) (L := 2 * L) (M := 2 * L) ?_ ?_ hL hL) ?_; (focus ((repeat (first | (with_reducible assumption) | (with_reducible refine Za.step ?_ (by with_reducible assumption)))); done)); (focus ((repeat (first | (with_reducible assumption) | (with_reducible refine Za.step ?_ (by with_reducible assumption)))); done)); rw [HC.out]; rintro e wx ⟨rfl, bx⟩))
 all_goals
  have st : Below W0.drew.heap.size W0.drew wx := (by (repeat (first | (with_reducible assumption) | (with_reducible refine Below.step1 ?_ (by with_reducible assumption)))))
  have Fin := hide (Below.step B.out B.out.size st)
  clear st
  go_wp2_with fail
  go_ret
  exact ⟨rfl, Fin.out⟩
theorem i_world1 (w : World) (s : Bool) (A : Option Addr) (n c : Nat) :
  Below w.heap.size w ((w.alloc (zbox s (.slice A n c))).alloc rblk).drew ∧ Rb ((w.alloc (zbox s (.slice A n c))).alloc rblk).drew (w.heap.size + 1) ∧ ((w.alloc (zbox s (.slice A n c))).alloc rblk).drew.cell? ⟨w.heap.size, 0, none⟩ = some (.bool s) ∧ ((w.alloc (zbox s (.slice A n c))).alloc rblk).drew.cell? ⟨w.heap.size, 1, none⟩ = some (.slice A n c) := by
 refine ⟨below_drewN (((Below.refl _ _).alloc (Nat.le_refl _) _).alloc (by simp) _) 1, ?_, ?_, ?_⟩
 ·have h := Rb.new (w.alloc (zbox s (.slice A n c)))
  have h2 : Rb ((w.alloc (zbox s (.slice A n c))).alloc rblk) (w.heap.size + 1) := by simpa using h
  exact h2
 all_goals go_simp
set_option maxHeartbeats 4000000 in
theorem ofint_r {w : World} {u : Value} {a : Int} {L : Nat} (hu : Za w u a L) (h1 : 1 ≤ L) (hL : L ≤ 17592186044000) :
  Calls Tryz.prog 86 #[u] w (RRet w (a : Rat) L) := by
 obtain ⟨s, u, x, rfl, hu, rfl⟩ := hu
 obtain ⟨A, n, c, rfl⟩ := hu.slice
 rw [← Rat.mkRat_one]
 obtain ⟨b2, hz, p0, p1⟩ := i_world1 w s A n c
 have za : Za ((w.alloc (zbox s (.slice A n c))).alloc rblk).drew (zv s (.slice A n c)) (zi s x) L := Za.of (hu.step b2)
 have B := hide b2
 have Z := hide hz
 clear hu b2 hz
 go_enter Tryz.func86, Tryz.ntmps86
 go_wp2_with fail
 generalize hW0 : ((w.alloc (zbox s (.slice A n c))).alloc rblk) = W0 at *
 go_region_held3 (fun W => W.cell? ⟨w.heap.size, 0, none⟩ = some (.bool s) ∧ W.cell? ⟨w.heap.size, 1, none⟩ = some (.slice A n c))
  (first | with_reducible exact ⟨p0, p1⟩ | (refine ⟨?_, ?_⟩ <;> (repeat (first | (with_reducible assumption) | (with_reducible refine cell_keep ?_ (by with_reducible assumption)) | (with_reducible refine cell_rset ?_ (by simp <;> omega) _ _ _)))))
  (first
    | (go_at_call 75; refine Calls.mono (zof_any _ 1 (by omega) (by omega)) ?_; rintro e wx ⟨vx, rfl, tx, bx⟩; replace tx := (Zi.za (Zi.more tx h1) : Za _ _ ((1 : Nat) : Int) L))
    | (go_at_call 47; refine Calls.mono (over_a (p := zi s x) (q := 1) (L := L) ?_ ?_ (by omega) hL) ?_; (focus ((repeat (first | (with_reducible assumption) | (with_reducible refine Za.step ?_ (by with_reducible assumption)))); done)); (focus ((repeat (first | (with_reducible assumption) | (with_reducible refine Za.step ?_ (by with_reducible assumption)))); done)); rintro e wx ⟨vx, rfl, tx, bx⟩; have st : Below W0.drew.heap.size W0.drew wx := (by (repeat (first | (with_reducible assumption) | (with_reducible refine Below.step1 ?_ (by with_reducible assumption))))); obtain ⟨sg, A9, n9, c9, D9, m9, d9, rfl, k0, k1, k2, f0, f1, f2, fin⟩ := rret_fit (w0 := w) tx (Z.out.step st) (by omega) (Below.step B.out B.out.size st)))
 all_goals
  have F9 := hide fin
  clear fin
  go_wp2_with fail
  exact bodyPost_ret (rret rfl _ _ _ #[.bool sg, .slice A9 n9 c9, .slice D9 m9 d9] rfl rfl F9.out.1) rfl F9.out.2
theorem sign_mk (p : Int) (q : Nat) (h : 0 < q) : zsg p = cmpR (mkRat p q) 0 := by
 have h1 := cmpR_mk p 0 q 1 h (by omega)
 rw [Rat.zero_mkRat] at h1
 rw [← h1]
 unfold zsg cmpZ
 split <;> (try split) <;> (try split) <;> omega
set_option maxHeartbeats 2000000 in
theorem sign_r {w : World} {a : Value} {r : Rat} {L : Nat} (ha : Ra w a r L) (hL : L ≤ 17592186044000) :
  Calls Tryz.prog 37 #[a] w fun e w' => e = .returned (.int .i64 (cmpR r 0)) ∧ Below w.heap.size w w' := by
 obtain ⟨s, A, n, c, D, m, d, x, y, rfl, hu, ht, rfl⟩ := ha.parts
 rw [← sign_mk _ _ (dn_pos y)]
 obtain ⟨b1, f1⟩ := fbox1 w s A n c D m d
 have HB := hide b1
 have SG := hide (zsign_a (Za.of (s := s) (hu.step b1)) hL)
 obtain ⟨p0, p1, p2⟩ := f1
 clear hu ht b1
 go_enter Tryz.func37, Tryz.ntmps37
 go_wp2_with fail
 refine SG.out.mono ?_
 rintro e w1 ⟨rfl, b1⟩
 have B1 := hide (Below.step HB.out HB.out.size b1)
 clear SG b1 HB p0 p1 p2
 go_wp2_with fail
 go_ret
 exact ⟨rfl, B1.out⟩
theorem zi_ne {t : Bool} {y : Nat} : zi t y ≠ 0 ↔ y ≠ 0 := by unfold zi; cases t <;> simp
theorem quot_mk (s t : Bool) (x y : Nat) (h : y ≠ 0) : ((zi s x : Int) : Rat) / ((zi t y : Int) : Rat) = mkRat (zi (s != t) x) y := by
 have : (y : Rat) ≠ 0 := by simpa using h
 rw [Rat.mkRat_eq_div]
 unfold zi
 cases s <;> cases t <;> simp [Rat.intCast_neg, Rat.intCast_natCast] <;> grind
def RqRet (w : World) (r : Rat) (L : Nat) (e : Ending) (w' : World) : Prop := ∃ v, e = .returned (.tuple #[v, .int .i64 0]) ∧ Rc w' v r L ∧ Below w.heap.size w w'
set_option maxHeartbeats 4000000 in
theorem make_r {w : World} {u v : Value} {a b : Int} {L M : Nat} (hu : Za w u a L) (hv : Za w v b M) (hb0 : b ≠ 0) (hL : L ≤ 17592186044000) (hM : M ≤ 17592186044000) (hLM : L = M) :
  Calls Tryz.prog 64 #[u, v] w (RqRet w ((a : Rat) / (b : Rat)) L) := by
 subst hLM
 obtain ⟨s, u, x, rfl, hu, rfl⟩ := hu
 obtain ⟨t, v, y, rfl, hv, rfl⟩ := hv
 obtain ⟨A, n, c, rfl⟩ := hu.slice
 obtain ⟨D, m, d, rfl⟩ := hv.slice
 obtain ⟨b2, ⟨y0, y1⟩, y2, y3⟩ := box2 w s t A D n c m d
 have b3 : Below w.heap.size w (((w.alloc (zbox s (.slice A n c))).alloc (zbox t (.slice D m d))).alloc rblk) := b2.alloc (by simp; omega) _
 have b4 : Below ((w.alloc (zbox s (.slice A n c))).alloc (zbox t (.slice D m d))).heap.size ((w.alloc (zbox s (.slice A n c))).alloc (zbox t (.slice D m d))) (((w.alloc (zbox s (.slice A n c))).alloc (zbox t (.slice D m d))).alloc rblk) := (Below.refl _ _).alloc (Nat.le_refl _) _
 have hz : Rb (((w.alloc (zbox s (.slice A n c))).alloc (zbox t (.slice D m d))).alloc rblk) (w.heap.size + 1 + 1) := by have h := Rb.new ((w.alloc (zbox s (.slice A n c))).alloc (zbox t (.slice D m d))); simpa using h
 have SG := hide (zsign_a (Za.of (s := t) (hv.step b3)) hM)
 have HB := hide b3
 have HZ := hide hz
 have hy : y ≠ 0 := zi_ne.1 hb0
 rw [quot_mk s t x y hy]
 have hsg : (zsg (zi t y) == 0) = false := beq_eq_false_iff_ne.2 (by unfold zsg; rw [if_neg hb0]; split <;> omega)
 have C0 := hide (cell_keep y0 b4)
 have C1 := hide (cell_keep y1 b4)
 have C2 := hide (cell_keep y2 b4)
 have C3 := hide (cell_keep y3 b4)
 have HU := hide (hu.step b3)
 have HV := hide (hv.step b3)
 have c2 := C2.out
 have c3 := C3.out
 clear hu hv b2 b3 b4 hz y0 y1 y2 y3
 go_enter Tryz.func64, Tryz.ntmps64
 go_wp2_with fail
 refine SG.out.mono ?_
 rintro e w1 ⟨rfl, b1⟩
 have k0 := cell_keep C0.out b1
 have k1 := cell_keep C1.out b1
 have k2 := cell_keep C2.out b1
 have k3 := cell_keep C3.out b1
 have RC := hide (reduce_any (s := (s != t)) (HU.out.step b1) (HV.out.step b1) (by omega) hL)
 have B1 := hide (Below.step HB.out HB.out.size b1)
 have Z1 := hide (HZ.out.step b1)
 clear SG HU HV HB HZ C0 C1 C2 C3 c2 c3 b1 hb0 hy
 go_wp2_with fail
 refine RC.out.mono ?_
 rintro e w2 ⟨r, rfl, c2, b2⟩
 clear k0 k1 k2 k3 hsg
 obtain ⟨sg, A1, n1, c1', D1, m1, d1, rfl, k0, k1, k2, f0, f1, f2, fin⟩ := rret_fit (w0 := w) c2 (Z1.out.step b2) (by omega) (Below.step B1.out B1.out.size b2)
 have F := hide fin
 clear fin RC c2 b2 Z1 B1
 go_wp2_with fail
 refine bodyPost_ret (rret2 rfl _ _ _ #[.bool sg, .slice A1 n1 c1', .slice D1 m1 d1] rfl rfl F.out.1) rfl ?_
 obtain ⟨-, v, e, h1, h2⟩ := F.out
 injection e with e
 subst e
 exact ⟨_, rfl, h1, h2⟩
set_option maxHeartbeats 4000000 in
theorem div_r {w : World} {a b : Value} {r1 r2 : Rat} {L : Nat} (ha : Ra w a r1 L) (hb : Ra w b r2 L) (h0 : r2 ≠ 0) (h1 : 1 ≤ L) (hL : 2 * L ≤ 17592186044000) :
  Calls Tryz.prog 38 #[a, b] w (RqRet w (r1 / r2) (2 * L)) := by
 obtain ⟨s, A, n, c, D, m, d, x, y, rfl, hu, ht, rfl⟩ := ha.parts
 obtain ⟨t, F, k, f, H, l, h, z, v, rfl, hv, hw, rfl⟩ := hb.parts
 have px : (zi s x).natAbs < Q ^ L := by rw [zi_abs]; exact hu.lt
 have pz : (zi t z).natAbs < Q ^ L := by rw [zi_abs]; exact hv.lt
 have py : ((dn y : Nat) : Int).natAbs < Q ^ L := by rw [Int.natAbs_natCast]; exact dn_lt ht.lt h1
 have pv : ((dn v : Nat) : Int).natAbs < Q ^ L := by rw [Int.natAbs_natCast]; exact dn_lt hw.lt h1
 have KP := hide (prod_lt px pv)
 have KQ := hide (prod_lt pz py)
 have hp1 := dn_pos y
 have hp2 := dn_pos v
 have hyz : ((dn y : Nat) : Int) ≠ 0 := by omega
 have hzz : zi t z ≠ 0 := by
  intro h9
  apply h0
  rw [h9, Rat.zero_mkRat]
 have hb0 : zi t z * (dn y : Int) ≠ 0 := Int.mul_ne_zero hzz hyz
 have hres : mkRat (zi s x) (dn y) / mkRat (zi t z) (dn v) = ((zi s x * (dn v : Int) : Int) : Rat) / ((zi t z * (dn y : Int) : Int) : Rat) := by
  have e1 : ((dn y : Nat) : Rat) ≠ 0 := (not_congr Rat.natCast_eq_zero_iff).2 (by omega)
  have e2 : ((dn v : Nat) : Rat) ≠ 0 := (not_congr Rat.natCast_eq_zero_iff).2 (by omega)
  have e3 : ((zi t z : Int) : Rat) ≠ 0 := (not_congr Rat.intCast_eq_zero_iff).2 hzz
  rw [Rat.mkRat_eq_div, Rat.mkRat_eq_div, Rat.intCast_mul, Rat.intCast_mul, Rat.intCast_natCast, Rat.intCast_natCast]
  grind
 rw [hres]
 clear hres h0 hzz hyz hp1 hp2
 obtain ⟨b2, hz, ⟨p0, p1, p2⟩, q0, q1, q2⟩ := f_world2 w s t A D F H n c m d k f l h
 have nu : Nw (((w.alloc (rbox s (.slice A n c) (.slice D m d))).alloc (rbox t (.slice F k f) (.slice H l h))).alloc rblk).drew (.slice A n c) x L := hu.step b2
 have nt : Nw (((w.alloc (rbox s (.slice A n c) (.slice D m d))).alloc (rbox t (.slice F k f) (.slice H l h))).alloc rblk).drew (.slice D m d) y L := ht.step b2
 have nv : Nw (((w.alloc (rbox s (.slice A n c) (.slice D m d))).alloc (rbox t (.slice F k f) (.slice H l h))).alloc rblk).drew (.slice F k f) z L := hv.step b2
 have nw : Nw (((w.alloc (rbox s (.slice A n c) (.slice D m d))).alloc (rbox t (.slice F k f) (.slice H l h))).alloc rblk).drew (.slice H l h) v L := hw.step b2
 have za : Za (((w.alloc (rbox s (.slice A n c) (.slice D m d))).alloc (rbox t (.slice F k f) (.slice H l h))).alloc rblk).drew (zv s (.slice A n c)) (zi s x) L := Za.of nu
 have zb : Za (((w.alloc (rbox s (.slice A n c) (.slice D m d))).alloc (rbox t (.slice F k f) (.slice H l h))).alloc rblk).drew (zv t (.slice F k f)) (zi t z) L := Za.of nv
 have B := hide b2
 have Z := hide hz
 clear ha hb hu ht hv hw b2 hz px pz py pv
 go_enter Tryz.func38, Tryz.ntmps38
 go_wp2_with fail
 generalize hW0 : (((w.alloc (rbox s (.slice A n c) (.slice D m d))).alloc (rbox t (.slice F k f) (.slice H l h))).alloc rblk) = W0 at *
 go_region_held3 (fun W => W.cell? ⟨w.heap.size, 0, none⟩ = some (.bool s) ∧ W.cell? ⟨w.heap.size, 1, none⟩ = some (.slice A n c) ∧ W.cell? ⟨w.heap.size, 2, none⟩ = some (.slice D m d) ∧ W.cell? ⟨w.heap.size + 1, 0, none⟩ = some (.bool t) ∧ W.cell? ⟨w.heap.size + 1, 1, none⟩ = some (.slice F k f) ∧ W.cell? ⟨w.heap.size + 1, 2, none⟩ = some (.slice H l h))
  (first | with_reducible exact ⟨p0, p1, p2, q0, q1, q2⟩ | (refine ⟨?_, ?_, ?_, ?_, ?_, ?_⟩ <;> (repeat (first | (with_reducible assumption) | (with_reducible refine cell_keep ?_ (by with_reducible assumption)) | (with_reducible refine cell_rset ?_ (by simp <;> omega) _ _ _)))))
  (first
    | (go_at_call 45; refine Calls.mono (under_a (x := x) (y := y) (L := L) ?_ ?_ h1 (by omega)) ?_; (focus ((repeat (first | (with_reducible assumption) | (with_reducible refine Nw.step ?_ (by with_reducible assumption)))); done)); (focus ((repeat (first | (with_reducible assumption) | (with_reducible refine Nw.step ?_ (by with_reducible assumption)))); done)); rintro e wx ⟨vx, rfl, tx, bx⟩)
    | (go_at_call 45; refine Calls.mono (under_a (x := z) (y := v) (L := L) ?_ ?_ h1 (by omega)) ?_; (focus ((repeat (first | (with_reducible assumption) | (with_reducible refine Nw.step ?_ (by with_reducible assumption)))); done)); (focus ((repeat (first | (with_reducible assumption) | (with_reducible refine Nw.step ?_ (by with_reducible assumption)))); done)); rintro e wx ⟨vx, rfl, tx, bx⟩)
    | (go_at_call 49; refine Calls.mono (zmul_a (a := zi s x) (b := (dn v : Int)) (L := L) (M := L) (K := 2 * L) ?_ ?_ (by omega) (by omega) KP.out) ?_; (focus ((repeat (first | (with_reducible assumption) | (with_reducible refine Za.step ?_ (by with_reducible assumption)))); done)); (focus ((repeat (first | (with_reducible assumption) | (with_reducible refine Za.step ?_ (by with_reducible assumption)))); done)); rintro e wx ⟨vx, rfl, tx, bx⟩; replace tx := Zi.za tx)
    | (go_at_call 49; refine Calls.mono (zmul_a (a := zi t z) (b := (dn y : Int)) (L := L) (M := L) (K := 2 * L) ?_ ?_ (by omega) (by omega) KQ.out) ?_; (focus ((repeat (first | (with_reducible assumption) | (with_reducible refine Za.step ?_ (by with_reducible assumption)))); done)); (focus ((repeat (first | (with_reducible assumption) | (with_reducible refine Za.step ?_ (by with_reducible assumption)))); done)); rintro e wx ⟨vx, rfl, tx, bx⟩; replace tx := Zi.za tx)
    | (go_at_call 64; refine Calls.mono (make_r (a := zi s x * (dn v : Int)) (b := zi t z * (dn y : Int)) (L := 2 * L) (M := 2 * L) ?_ ?_ hb0 hL hL rfl) ?_; (focus ((repeat (first | (with_reducible assumption) | (with_reducible refine Za.step ?_ (by with_reducible assumption)))); done)); (focus ((repeat (first | (with_reducible assumption) | (with_reducible refine Za.step ?_ (by with_reducible assumption)))); done)); rintro e wx ⟨vx, rfl, tx, bx⟩; have st : Below W0.drew.heap.size W0.drew wx := (by (repeat (first | (with_reducible assumption) | (with_reducible refine Below.step1 ?_ (by with_reducible assumption))))); obtain ⟨sg, A9, n9, c9, D9, m9, d9, rfl, k0, k1, k2, f0, f1, f2, fin⟩ := rret_fit (w0 := w) tx (Z.out.step st) (by omega) (Below.step B.out B.out.size st)))
 all_goals
  have F9 := hide fin
  clear fin
  go_wp2_with fail
  refine bodyPost_ret (rret2 rfl _ _ _ #[.bool sg, .slice A9 n9 c9, .slice D9 m9 d9] rfl rfl F9.out.1) rfl ?_
  obtain ⟨-, v, e, h1, h2⟩ := F9.out
  injection e with e
  subst e
  exact ⟨_, rfl, h1, h2⟩
theorem zq_pos (p : Int) (q : Nat) : zq p q = p / q := by unfold zq; rw [if_pos (by omega)]
theorem floor_mk (p : Int) (q : Nat) (hq : 0 < q) : (mkRat p q).floor = zq p q := by
 have hq' : (0 : Int) < q := by omega
 rw [zq_pos]
 apply Int.le_antisymm
 ·have h : (mkRat p q).floor < p / q + 1 := by
   rw [Rat.floor_lt_iff, ← Rat.mkRat_one, lt_mk _ _ _ _ hq (by omega)]
   have := Int.lt_ediv_add_one_mul_self p hq'
   rw [show p * ((1 : Nat) : Int) = p by simp]
   exact this
  omega
 ·rw [Rat.le_floor_iff, ← Rat.mkRat_one, ← Rat.not_lt, lt_mk _ _ _ _ hq (by omega)]
  have := Int.ediv_mul_le p (show (q : Int) ≠ 0 by omega)
  rw [show p * ((1 : Nat) : Int) = p by simp]
  omega
theorem frac_mk (p : Int) (q : Nat) (hq : 0 < q) : mkRat (zr p q) q = mkRat p q - (((mkRat p q).floor : Int) : Rat) := by
 have e1 : ((q : Nat) : Rat) ≠ 0 := (not_congr Rat.natCast_eq_zero_iff).2 (by omega)
 rw [floor_mk p q hq, Rat.mkRat_eq_div, Rat.mkRat_eq_div]
 unfold zr
 rw [Rat.intCast_sub, Rat.intCast_mul, Rat.intCast_natCast]
 grind
theorem Za.more {w : World} {v : Value} {a : Int} {L M : Nat} (h : Za w v a L) (hL : L ≤ M) : Za w v a M := by
 obtain ⟨s, u, x, e, hu, hz⟩ := h
 obtain ⟨A, n, c, xs, e2, h1, h2, h3, h4, h5, h6⟩ := hu
 exact ⟨s, u, x, e, ⟨A, n, c, xs, e2, h1, h2, h3, h4, h5, Nat.le_trans h6 hL⟩, hz⟩
theorem Za.parts {w : World} {v : Value} {a : Int} {L : Nat} (h : Za w v a L) : ∃ s A n c, v = zv s (.slice A n c) ∧ Za w (zv s (.slice A n c)) a L := by
 obtain ⟨s, u, x, rfl, hu, h⟩ := h
 obtain ⟨A, n, c, rfl⟩ := hu.slice
 exact ⟨s, A, n, c, rfl, s, _, x, rfl, hu, h⟩
set_option maxHeartbeats 4000000 in
theorem frac_r {w : World} {a : Value} {r : Rat} {L : Nat} (ha : Ra w a r L) (h1 : 1 ≤ L) (hL : L + 1 ≤ 17592186044000) :
  Calls Tryz.prog 23 #[a] w (RRet w (r - ((r.floor : Int) : Rat)) (L + 1)) := by
 obtain ⟨s, A, n, c, D, m, d, x, y, rfl, hu, ht, rfl⟩ := ha.parts
 rw [← frac_mk _ _ (dn_pos y)]
 obtain ⟨b1, f1⟩ := fbox1 w s A n c D m d
 have b2 : Below w.heap.size w ((w.alloc (rbox s (.slice A n c) (.slice D m d))).alloc rblk) := b1.alloc (by simp) _
 have b3 : Below (w.alloc (rbox s (.slice A n c) (.slice D m d))).heap.size (w.alloc (rbox s (.slice A n c) (.slice D m d))) ((w.alloc (rbox s (.slice A n c) (.slice D m d))).alloc rblk) := (Below.refl _ _).alloc (Nat.le_refl _) _
 have hz : Rb ((w.alloc (rbox s (.slice A n c) (.slice D m d))).alloc rblk) (w.heap.size + 1) := by have h := Rb.new (w.alloc (rbox s (.slice A n c) (.slice D m d))); simpa using h
 have UC := hide (under_a (s := s) (hu.step b2) (ht.step b2) h1 (by omega))
 have HF := hide (f1.step b3)
 have HA := hide (Za.of (s := s) (hu.step b2))
 have HB := hide b2
 have HZ := hide hz
 have hd : ((dn y : Nat) : Int) ≠ 0 := by have := dn_pos y; omega
 have HD := hide hd
 have HP := hide (dn_pos y)
 obtain ⟨p0, p1, p2⟩ := HF.out
 generalize dn y = q at *
 clear hu ht b1 b2 b3 hz f1 hd ha
 go_enter Tryz.func23, Tryz.ntmps23
 go_wp2_with fail
 refine UC.out.mono ?_
 rintro e w1 ⟨v, rfl, z1, b1⟩
 obtain ⟨sd, E, k, f, rfl, z2⟩ := z1.parts
 obtain ⟨b4, y0, y1⟩ := box1 w1 sd E k f
 have HY := hide (And.intro y0 y1)
 have b5 := Below.step1 b1 b4
 have Z1 := hide (z2.step b4)
 have A1 := hide (HA.out.step b5)
 have F1 := hide (HF.out.step b5)
 have B1 := hide (Below.step HB.out HB.out.size b5)
 have R1 := hide (HZ.out.step b5)
 have DC := hide (zdiv_any A1.out Z1.out HD.out (Nat.le_refl L) (Nat.le_refl L) (by omega))
 have SZ := hide (show (w1.alloc (zbox sd (.slice E k f))).heap.size = w1.heap.size + 1 by simp)
 obtain ⟨p0', p1', p2'⟩ := F1.out
 clear b4 b5 b1 z1 z2 HF HA HB HZ UC p0 p1 p2
 go_wp2_with fail
 refine DC.out.mono ?_
 rintro e w2 ⟨q1, r1, rfl, hq, hr, b2⟩
 obtain ⟨s3, A3, n3, c3, rfl, -⟩ := hq.za.parts
 obtain ⟨s4, A4, n4, c4, rfl, hr2⟩ := hr.za.parts
 obtain ⟨b4, y4, y5⟩ := box2 w2 s3 s4 A3 A4 n3 c3 n4 c4
 have b5 := Below.step1 b2 b4
 have OC := hide (over_a (hr2.step b4) ((Z1.out.step b5).more (Nat.le_succ L)) HP.out hL)
 have B2 := hide (Below.step B1.out B1.out.size b5)
 have R2 := hide (R1.out.step b5)
 have j0 := cell_keep HY.out.1 b5
 have j1 := cell_keep HY.out.2 b5
 clear DC b2 b4 b5 hq hr hr2 A1 F1 B1 R1 Z1 y0 y1 p0' p1' p2' HY
 go_wp2_with fail
 refine OC.out.mono ?_
 rintro e w3 ⟨r, rfl, c2, b2⟩
 obtain ⟨sg, A9, n9, c9, D9, m9, d9, rfl, k0, k1, k2, f0, f1, f2, fin⟩ := rret_fit (w0 := w) c2 (R2.out.step b2) (by omega) (Below.step B2.out B2.out.size b2)
 have F := hide fin
 clear fin OC c2 b2 R2 B2
 go_wp2_with fail
 exact bodyPost_ret (rret rfl _ _ _ #[.bool sg, .slice A9 n9 c9, .slice D9 m9 d9] rfl rfl F.out.1) rfl F.out.2
theorem whole_mk (s : Bool) (x q : Nat) (hq : 0 < q) : (((mkRat (zi s x) q).floor : Int) : Rat) = mkRat (zi s x) q ↔ x % q = 0 := by
 have h := frac_mk (zi s x) q hq
 have h2 := Rat.mkRat_eq_zero (n := zr (zi s x) q) (d := q) (by omega)
 have h3 : zr (zi s x) q = 0 ↔ x % q = 0 := by
  unfold zr
  rw [zq_pos]
  have h4 := Int.emod_add_mul_ediv (zi s x) q
  have h5 : (q : Int) * (zi s x / q) = zi s x / q * q := Int.mul_comm _ _
  have h6 : zi s x - zi s x / q * q = zi s x % q := by omega
  rw [h6]
  unfold zi
  cases s
  ·simp only [Bool.false_eq_true, if_false]; omega
  ·simp only [if_true]
   rw [← Int.dvd_iff_emod_eq_zero, Int.dvd_neg, Int.dvd_iff_emod_eq_zero]
   omega
 rw [← h3, ← h2, h]
 grind
set_option maxHeartbeats 4000000 in
theorem iswhole_r {w : World} {a : Value} {r : Rat} {L : Nat} (ha : Ra w a r L) (h1 : 1 ≤ L) (hL : L ≤ 17592186044000) :
  Calls Tryz.prog 22 #[a] w fun e w' => e = .returned (.bool (decide (((r.floor : Int) : Rat) = r))) ∧ Below w.heap.size w w' := by
 obtain ⟨s, A, n, c, D, m, d, x, y, rfl, hu, ht, rfl⟩ := ha.parts
 have hw : decide ((((mkRat (zi s x) (dn y)).floor : Int) : Rat) = mkRat (zi s x) (dn y)) = (((cn Q (x % dn y)).length : Int) == 0) := by
  rw [Bool.eq_iff_iff, decide_eq_true_iff, whole_mk s x _ (dn_pos y), beq_iff_eq]
  constructor
  ·intro h; rw [h]; simp [cn]
  ·intro h
   have h9 : cn Q (x % dn y) = [] := List.eq_nil_of_length_eq_zero (by omega)
   have h8 := vl_cn (B := Q) Q_two (x % dn y)
   rw [h9] at h8
   rw [← h8]; rfl
 rw [hw]
 obtain ⟨k, hk⟩ : ∃ k, (cn Q (x % dn y)).length = k := ⟨_, rfl⟩
 rw [hk]
 have HK := hide hk
 have hfd : ∀ (A : Option Addr) (n c : Nat) (w : World), (Instr.field 41 (zv false (.slice A n c)) 1).run Tryz.prog w = .ok (.slice A n c) w := fun _ _ _ _ => by kernel_rfl
 have HP := hide (dn_pos y)
 obtain ⟨b1, f1⟩ := fbox1 w s A n c D m d
 have b2 : Below w.heap.size w (w.alloc (rbox s (.slice A n c) (.slice D m d))).drew := below_drewN b1 1
 obtain ⟨p0, p1, p2⟩ : Fx (w.alloc (rbox s (.slice A n c) (.slice D m d))).drew w.heap.size s A n c D m d := f1
 have nu : Nw (w.alloc (rbox s (.slice A n c) (.slice D m d))).drew (.slice A n c) x L := hu.step b2
 have nt : Nw (w.alloc (rbox s (.slice A n c) (.slice D m d))).drew (.slice D m d) y L := ht.step b2
 have B := hide b2
 clear ha hu ht b1 b2 hw hk
 go_enter Tryz.func22, Tryz.ntmps22
 go_wp2_with fail
 generalize hW0 : (w.alloc (rbox s (.slice A n c) (.slice D m d))) = W0 at *
 go_region_held3 (fun W => W.cell? ⟨w.heap.size, 0, none⟩ = some (.bool s) ∧ W.cell? ⟨w.heap.size, 1, none⟩ = some (.slice A n c) ∧ W.cell? ⟨w.heap.size, 2, none⟩ = some (.slice D m d))
  (first | with_reducible exact ⟨p0, p1, p2⟩ | (refine ⟨?_, ?_, ?_⟩ <;> (repeat (first | (with_reducible assumption) | (with_reducible refine cell_keep ?_ (by with_reducible assumption)) | (with_reducible refine cell_rset ?_ (by simp <;> omega) _ _ _)))))
  (first
    | (go_at_call 45; refine Calls.mono (under_any (x := x) (y := y) (L := L) ?_ ?_ h1 hL) ?_; (focus ((repeat (first | (with_reducible assumption) | (with_reducible refine Nw.step ?_ (by with_reducible assumption)))); done)); (focus ((repeat (first | (with_reducible assumption) | (with_reducible refine Nw.step ?_ (by with_reducible assumption)))); done)); rintro e wx ⟨A7, n7, c7, rfl, tx, bx⟩)
    | (go_at_call 44; refine Calls.mono (ndivmod (x := x) (y := dn y) (L := L) (M := L) ?_ ?_ hL HP.out) ?_; (focus ((repeat (first | (with_reducible assumption) | (with_reducible refine Nw.step ?_ (by with_reducible assumption)))); done)); (focus ((repeat (first | (with_reducible assumption) | (with_reducible refine Nw.step ?_ (by with_reducible assumption)))); done)); rintro e wx ⟨q9, r9, rfl, -, -, -, -, tx, bx⟩; have st : Below W0.drew.heap.size W0.drew wx := (by (repeat (first | (with_reducible assumption) | (with_reducible refine Below.step1 ?_ (by with_reducible assumption))))); obtain ⟨A9, c9, rfl, -⟩ := tx; rw [HK.out]))
 all_goals
  have F := hide (Below.step B.out B.out.size st)
  clear B st HK
  go_wp2_with fail
  go_ret
  exact ⟨rfl, F.out⟩
theorem wpAnyH_with {P : Program} {md : Region.Mode} {ops : Array Oper} {Q : Exit → Act → World → Prop} {S : World → Prop} {fuel : Nat} {listed : Array Bool} {a : Act} {w : World} (fuel' : Nat) (listed' : Array Bool) (R : Act → World → Prop)
  (h1 : ∀ a w, R a w → wpAnyH P md ops Q S fuel' listed' a w) (h2 : Hid (∀ a w, R a w → wpAnyH P md ops Q S fuel' listed' a w) → wpAnyH P md ops Q S fuel listed a w) : wpAnyH P md ops Q S fuel listed a w := h2 (hide h1)
theorem Za.zset {w : World} {v : Value} {z : Int} {L g : Nat} (h : Za w v z L) (hz : Zb w g) (a b : Value) : Za ((w.setCell ⟨g, 0, none⟩ a).setCell ⟨g, 1, none⟩ b) v z L := by
 obtain ⟨s, u, x, e, hu, hx⟩ := h
 exact ⟨s, u, x, e, hu.zset hz a b, hx⟩
theorem Zb.lt {w : World} {g : Nat} (h : Zb w g) : g < w.heap.size := by have h1 := h; unfold Zb at h1; exact (Array.getElem?_eq_some_iff.1 h1).1
theorem Bx.far {w : World} {g k : Nat} {s : Bool} {A : Option Addr} {n c : Nat} (h : Bx w g s A n c) (hne : g ≠ k) (a b : Value) : Bx ((w.setCell ⟨k, 0, none⟩ a).setCell ⟨k, 1, none⟩ b) g s A n c :=
 ⟨cell_zset h.1 hne a b, cell_zset h.2 hne a b⟩
theorem Zb.bx {w : World} {g : Nat} (h : Zb w g) (s : Bool) (A : Option Addr) (n c : Nat) : Bx ((w.setCell ⟨g, 0, none⟩ (.bool s)).setCell ⟨g, 1, none⟩ (.slice A n c)) g s A n c :=
 ⟨cell_of_row _ g 0 _ _ _ (h.set _ _), cell_of_row _ g 1 _ _ _ (h.set _ _)⟩
def Firm (F : World → Prop) : Prop := (∀ W W', F W → Below W.heap.size W W' → F W') ∧ ∀ W g a b, F W → Zb W g → F ((W.setCell ⟨g, 0, none⟩ a).setCell ⟨g, 1, none⟩ b)
theorem Firm.yes : Firm (fun _ => True) := ⟨fun _ _ _ _ => trivial, fun _ _ _ _ _ _ => trivial⟩
theorem Firm.za (v : Value) (z : Int) (L : Nat) : Firm (fun W => Za W v z L) := ⟨fun _ _ h hb => h.step hb, fun _ _ a b h hz => h.zset hz a b⟩
theorem Firm.and {F G : World → Prop} (hf : Firm F) (hg : Firm G) : Firm (fun W => F W ∧ G W) :=
 ⟨fun W W' h hb => ⟨hf.1 W W' h.1 hb, hg.1 W W' h.2 hb⟩, fun W g a b h hz => ⟨hf.2 W g a b h.1 hz, hg.2 W g a b h.2 hz⟩⟩
def St (n0 : Nat) (W0 W : World) (A B : Bool) (gA gB : Nat) (F : World → Prop) : Prop :=
 Below n0 W0 W ∧ n0 ≤ W.heap.size ∧ F W ∧ (A = true → Zb W gA ∧ n0 ≤ gA) ∧ (B = true → Zb W gB ∧ n0 ≤ gB) ∧ (A = true → B = true → gA ≠ gB)
theorem St.start (W : World) : St W.heap.size W W false false 0 0 (fun _ => True) := ⟨Below.refl _ _, Nat.le_refl _, trivial, (fun h => by cases h), (fun h => by cases h), (fun h => by cases h)⟩
theorem St.call {n0 : Nat} {W0 W W' : World} {A B : Bool} {gA gB : Nat} {F G : World → Prop} (h : St n0 W0 W A B gA gB F) (hb : Below W.heap.size W W') (hf : Firm F) (hg : G W') : St n0 W0 W' A B gA gB (fun W => F W ∧ G W) := by
 obtain ⟨h1, h2, h3, h4, h5, h6⟩ := h
 exact ⟨h1.trans (hb.mono h2), Nat.le_trans h2 hb.size, ⟨hf.1 _ _ h3 hb, hg⟩, fun e => ⟨(h4 e).1.step (h4 e).1.lt hb, (h4 e).2⟩, fun e => ⟨(h5 e).1.step (h5 e).1.lt hb, (h5 e).2⟩, h6⟩
theorem St.makeA {n0 : Nat} {W0 W : World} {B : Bool} {g gB : Nat} {F : World → Prop} (h : St n0 W0 W false B g gB F) (hf : Firm F) : St n0 W0 (W.alloc zblk) true B W.heap.size gB F := by
 obtain ⟨h1, h2, h3, h4, h5, h6⟩ := h
 have hb : Below W.heap.size W (W.alloc zblk) := (Below.refl _ _).alloc (Nat.le_refl _) _
 exact ⟨h1.alloc h2 _, Nat.le_trans h2 hb.size, hf.1 _ _ h3 hb, fun _ => ⟨Zb.new W, h2⟩, fun e => ⟨(h5 e).1.step (h5 e).1.lt hb, (h5 e).2⟩, fun _ e => Nat.ne_of_gt (h5 e).1.lt⟩
theorem St.makeB {n0 : Nat} {W0 W : World} {A : Bool} {g gA : Nat} {F : World → Prop} (h : St n0 W0 W A false gA g F) (hf : Firm F) : St n0 W0 (W.alloc zblk) A true gA W.heap.size F := by
 obtain ⟨h1, h2, h3, h4, h5, h6⟩ := h
 have hb : Below W.heap.size W (W.alloc zblk) := (Below.refl _ _).alloc (Nat.le_refl _) _
 exact ⟨h1.alloc h2 _, Nat.le_trans h2 hb.size, hf.1 _ _ h3 hb, fun e => ⟨(h4 e).1.step (h4 e).1.lt hb, (h4 e).2⟩, fun _ => ⟨Zb.new W, h2⟩, fun e _ => Nat.ne_of_lt (h4 e).1.lt⟩
def St1 (n0 : Nat) (W0 W : World) (gA gB : Nat) (s : Bool) (A : Option Addr) (n c : Nat) (F : World → Prop) : Prop :=
 Below n0 W0 W ∧ n0 ≤ W.heap.size ∧ F W ∧ Bx W gA s A n c ∧ Zb W gB ∧ n0 ≤ gB ∧ gA ≠ gB ∧ n0 ≤ gA
theorem St.putA {n0 : Nat} {W0 W : World} {gA gB : Nat} {F : World → Prop} (h : St n0 W0 W true true gA gB F) (hf : Firm F) (s : Bool) (A : Option Addr) (n c : Nat) :
  W.cell? ⟨gA, 0, none⟩ = some (.bool false) ∧ W.cell? ⟨gA, 1, none⟩ = some (.slice none 0 0) ∧ W.frozen? ⟨gA, 0, none⟩ = false ∧ W.frozen? ⟨gA, 1, none⟩ = false ∧
   Hid (St1 n0 W0 ((W.setCell ⟨gA, 0, none⟩ (.bool s)).setCell ⟨gA, 1, none⟩ (.slice A n c)) gA gB s A n c F) := by
 obtain ⟨h1, h2, h3, h4, h5, h6⟩ := h
 obtain ⟨zA, lA⟩ := h4 rfl
 obtain ⟨zB, lB⟩ := h5 rfl
 have hne := h6 rfl rfl
 exact ⟨zA.c0, zA.c1, zA.fz 0, zA.fz 1, hide ⟨(h1.setCell lA _).setCell lA _, by rw [size_zset]; exact h2, hf.2 _ _ _ _ h3 zA, zA.bx s A n c, zB.far (Ne.symm hne) _ _, lB, hne, lA⟩⟩
def St2 (n0 : Nat) (W0 W : World) (gA gB : Nat) (s t : Bool) (A D : Option Addr) (n c m d : Nat) (F : World → Prop) : Prop :=
 Below n0 W0 W ∧ n0 ≤ W.heap.size ∧ F W ∧ Bx W gA s A n c ∧ Bx W gB t D m d ∧ n0 ≤ gA ∧ n0 ≤ gB ∧ gA ≠ gB
theorem St1.putB {n0 : Nat} {W0 W : World} {gA gB : Nat} {s : Bool} {A : Option Addr} {n c : Nat} {F : World → Prop} (h : St1 n0 W0 W gA gB s A n c F) (hf : Firm F) (t : Bool) (D : Option Addr) (m d : Nat) :
  W.cell? ⟨gB, 0, none⟩ = some (.bool false) ∧ W.cell? ⟨gB, 1, none⟩ = some (.slice none 0 0) ∧ W.frozen? ⟨gB, 0, none⟩ = false ∧ W.frozen? ⟨gB, 1, none⟩ = false ∧
   Hid (St2 n0 W0 ((W.setCell ⟨gB, 0, none⟩ (.bool t)).setCell ⟨gB, 1, none⟩ (.slice D m d)) gA gB s t A D n c m d F) := by
 obtain ⟨h1, h2, h3, h4, zB, lB, hne, lA⟩ := h
 exact ⟨zB.c0, zB.c1, zB.fz 0, zB.fz 1, hide ⟨(h1.setCell lB _).setCell lB _, by rw [size_zset]; exact h2, hf.2 _ _ _ _ h3 zB, h4.far hne _ _, zB.bx t D m d, lA, lB, hne⟩⟩
theorem put3 {n0 : Nat} {W0 W : World} {g1 g2 g3 : Nat} {F : World → Prop} (hb : Below n0 W0 W) (z1 : Zb W g1) (z2 : Zb W g2) (z3 : Zb W g3) (l1 : n0 ≤ g1) (l2 : n0 ≤ g2) (l3 : n0 ≤ g3) (h12 : g1 ≠ g2) (h13 : g1 ≠ g3) (h23 : g2 ≠ g3) (hf : Firm F) (hF : F W) (s1 s2 s3 : Value) (u1 u2 u3 : Value) :
  (((((((W.setCell ⟨g1, 0, none⟩ s1).setCell ⟨g1, 1, none⟩ u1).setCell ⟨g2, 0, none⟩ s2).setCell ⟨g2, 1, none⟩ u2).setCell ⟨g3, 0, none⟩ s3).setCell ⟨g3, 1, none⟩ u3).heap[g1]? = some (.cells #[s1, u1] 41 (0, 0)) ∧
  ((((((W.setCell ⟨g1, 0, none⟩ s1).setCell ⟨g1, 1, none⟩ u1).setCell ⟨g2, 0, none⟩ s2).setCell ⟨g2, 1, none⟩ u2).setCell ⟨g3, 0, none⟩ s3).setCell ⟨g3, 1, none⟩ u3).heap[g2]? = some (.cells #[s2, u2] 41 (0, 0)) ∧
  ((((((W.setCell ⟨g1, 0, none⟩ s1).setCell ⟨g1, 1, none⟩ u1).setCell ⟨g2, 0, none⟩ s2).setCell ⟨g2, 1, none⟩ u2).setCell ⟨g3, 0, none⟩ s3).setCell ⟨g3, 1, none⟩ u3).heap[g3]? = some (.cells #[s3, u3] 41 (0, 0)) ∧
  F ((((((W.setCell ⟨g1, 0, none⟩ s1).setCell ⟨g1, 1, none⟩ u1).setCell ⟨g2, 0, none⟩ s2).setCell ⟨g2, 1, none⟩ u2).setCell ⟨g3, 0, none⟩ s3).setCell ⟨g3, 1, none⟩ u3) ∧
  Below n0 W0 ((((((W.setCell ⟨g1, 0, none⟩ s1).setCell ⟨g1, 1, none⟩ u1).setCell ⟨g2, 0, none⟩ s2).setCell ⟨g2, 1, none⟩ u2).setCell ⟨g3, 0, none⟩ s3).setCell ⟨g3, 1, none⟩ u3)) := by
 have y2 := z2.far (Ne.symm h12) s1 u1
 have y3 := (z3.far (Ne.symm h13) s1 u1).far (Ne.symm h23) s2 u2
 refine ⟨heap_far (heap_far (z1.set _ _) h12 _ _) h13 _ _, heap_far (y2.set _ _) h23 _ _, y3.set _ _, hf.2 _ _ _ _ (hf.2 _ _ _ _ (hf.2 _ _ _ _ hF z1) y2) y3, ?_⟩
 exact (((((hb.setCell l1 _).setCell l1 _).setCell l2 _).setCell l2 _).setCell l3 _).setCell l3 _
theorem zret333 {fn : Func} {p q r : Tmp} (h : fn.results = #[.cell p 41, .cell q 41, .cell r 41]) (tmps : Array Value) (w : World) (g1 g2 g3 : Nat) (cs1 cs2 cs3 : Array Value) (hs1 : cs1.size = 2) (hs2 : cs2.size = 2) (hs3 : cs3.size = 2)
  (hp : tmps.getD p undef = .pointer (some ⟨g1, 0, none⟩)) (hq : tmps.getD q undef = .pointer (some ⟨g2, 0, none⟩)) (hr : tmps.getD r undef = .pointer (some ⟨g3, 0, none⟩)) (h1 : w.heap[g1]? = some (.cells cs1 41 (0, 0))) (h2 : w.heap[g2]? = some (.cells cs2 41 (0, 0))) (h3 : w.heap[g3]? = some (.cells cs3 41 (0, 0))) :
  (results fn tmps).run Tryz.prog w = .ok (.tuple #[.agg cs1, .agg cs2, .agg cs3]) w := by
 have hp' : tmps[p]?.getD undef = .pointer (some ⟨g1, 0, none⟩) := by simpa using hp
 have hq' : tmps[q]?.getD undef = .pointer (some ⟨g2, 0, none⟩) := by simpa using hq
 have hr' : tmps[r]?.getD undef = .pointer (some ⟨g3, 0, none⟩) := by simpa using hr
 simp only [results, h]
 simp [Sem.run_bind, Result.andThen, hp', hq', hr', asAddr, run_loadVar_row (P := Tryz.prog) w g1 41 41 cs1 (0, 0) _ h1 Tryz.underlying41 rfl (by rw [hs1]; kernel_rfl), run_loadVar_row (P := Tryz.prog) w g2 41 41 cs2 (0, 0) _ h2 Tryz.underlying41 rfl (by rw [hs2]; kernel_rfl), run_loadVar_row (P := Tryz.prog) w g3 41 41 cs3 (0, 0) _ h3 Tryz.underlying41 rfl (by rw [hs3]; kernel_rfl)]
set_option linter.unusedSimpArgs false
theorem Zb.all {W : World} {g : Nat} (h : Zb W g) : W.cell? ⟨g, 0, none⟩ = some (.bool false) ∧ W.cell? ⟨g, 1, none⟩ = some (.slice none 0 0) ∧ W.frozen? ⟨g, 0, none⟩ = false ∧ W.frozen? ⟨g, 1, none⟩ = false := ⟨h.c0, h.c1, h.fz 0, h.fz 1⟩
theorem under_s {w : World} {s : Bool} {A D : Option Addr} {n c m d : Nat} {x y L : Nat} (hu : Nw w (.slice A n c) x L) (ht : Nw w (.slice D m d) y L) (h1 : 1 ≤ L) (hL : L ≤ 17592186044000) :
  Calls Tryz.prog 45 #[rv s (.slice A n c) (.slice D m d)] w fun e w' => ∃ A n c, e = .returned (zv false (.slice A n c)) ∧ Za w' (zv false (.slice A n c)) (dn y : Int) L ∧ Below w.heap.size w w' :=
 (under_any hu ht h1 hL).mono fun e w' ⟨A', n', c', he, hn, hb⟩ => ⟨A', n', c', he, ⟨false, _, _, rfl, hn, rfl⟩, hb⟩
theorem f_world3 (w : World) (s t : Bool) (A D F H : Option Addr) (n c m d k f l h : Nat) :
  Below w.heap.size w (((((w.alloc (rbox s (.slice A n c) (.slice D m d))).alloc (rbox t (.slice F k f) (.slice H l h))).alloc zblk).alloc zblk).alloc zblk).drew ∧ (Zb (((((w.alloc (rbox s (.slice A n c) (.slice D m d))).alloc (rbox t (.slice F k f) (.slice H l h))).alloc zblk).alloc zblk).alloc zblk).drew (w.heap.size + 1 + 1) ∧ Zb (((((w.alloc (rbox s (.slice A n c) (.slice D m d))).alloc (rbox t (.slice F k f) (.slice H l h))).alloc zblk).alloc zblk).alloc zblk).drew (w.heap.size + 1 + 1 + 1) ∧ Zb (((((w.alloc (rbox s (.slice A n c) (.slice D m d))).alloc (rbox t (.slice F k f) (.slice H l h))).alloc zblk).alloc zblk).alloc zblk).drew (w.heap.size + 1 + 1 + 1 + 1)) ∧
   Fx (((((w.alloc (rbox s (.slice A n c) (.slice D m d))).alloc (rbox t (.slice F k f) (.slice H l h))).alloc zblk).alloc zblk).alloc zblk).drew w.heap.size s A n c D m d ∧ Fx (((((w.alloc (rbox s (.slice A n c) (.slice D m d))).alloc (rbox t (.slice F k f) (.slice H l h))).alloc zblk).alloc zblk).alloc zblk).drew (w.heap.size + 1) t F k f H l h ∧ w.heap.size + 1 + 1 + 1 + 1 < (((((w.alloc (rbox s (.slice A n c) (.slice D m d))).alloc (rbox t (.slice F k f) (.slice H l h))).alloc zblk).alloc zblk).alloc zblk).drew.heap.size := by
 have b1 : Below w.heap.size w ((w.alloc (rbox s (.slice A n c) (.slice D m d))).alloc (rbox t (.slice F k f) (.slice H l h))) := ((Below.refl _ _).alloc (Nat.le_refl _) _).alloc (by simp) _
 refine ⟨below_drewN (((b1.alloc (by simp; omega) _).alloc (by simp; omega) _).alloc (by simp; omega) _) 1, ⟨?_, ?_, ?_⟩, ⟨?_, ?_, ?_⟩, ⟨?_, ?_, ?_⟩, ?_⟩
 ·have h9 := Zb.new ((w.alloc (rbox s (.slice A n c) (.slice D m d))).alloc (rbox t (.slice F k f) (.slice H l h)))
  have h8 := (h9.step (by simp) ((Below.refl _ _).alloc (Nat.le_refl _) zblk)).step (by simp <;> omega) ((Below.refl _ _).alloc (Nat.le_refl _) zblk)
  have h2 : Zb (((((w.alloc (rbox s (.slice A n c) (.slice D m d))).alloc (rbox t (.slice F k f) (.slice H l h))).alloc zblk).alloc zblk).alloc zblk) (w.heap.size + 1 + 1) := by simpa using h8
  exact h2
 ·have h9 := Zb.new (((w.alloc (rbox s (.slice A n c) (.slice D m d))).alloc (rbox t (.slice F k f) (.slice H l h))).alloc zblk)
  have h8 := h9.step (by simp) ((Below.refl _ _).alloc (Nat.le_refl _) zblk)
  have h2 : Zb (((((w.alloc (rbox s (.slice A n c) (.slice D m d))).alloc (rbox t (.slice F k f) (.slice H l h))).alloc zblk).alloc zblk).alloc zblk) (w.heap.size + 1 + 1 + 1) := by simpa using h8
  exact h2
 ·have h9 := Zb.new ((((w.alloc (rbox s (.slice A n c) (.slice D m d))).alloc (rbox t (.slice F k f) (.slice H l h))).alloc zblk).alloc zblk)
  have h2 : Zb (((((w.alloc (rbox s (.slice A n c) (.slice D m d))).alloc (rbox t (.slice F k f) (.slice H l h))).alloc zblk).alloc zblk).alloc zblk) (w.heap.size + 1 + 1 + 1 + 1) := by simpa using h9
  exact h2
 all_goals go_simp
def AlRet (w : World) (r1 r2 : Rat) (K : Nat) (e : Ending) (w' : World) : Prop := ∃ u v d p1 p2 q, e = .returned (.tuple #[u, v, d]) ∧ Za w' u p1 K ∧ Za w' v p2 K ∧ Za w' d ((q : Nat) : Int) K ∧ 0 < q ∧ r1 = mkRat p1 q ∧ r2 = mkRat p2 q ∧ Below w.heap.size w w'
set_option maxHeartbeats 8000000 in
theorem alike_r {w : World} {a b : Value} {r1 r2 : Rat} {L : Nat} (ha : Ra w a r1 L) (hb : Ra w b r2 L) (h1 : 1 ≤ L) (hL : 2 * L ≤ 17592186044000) :
  Calls Tryz.prog 65 #[a, b] w (AlRet w r1 r2 (2 * L)) := by
 obtain ⟨s, A, n, c, D, m, d, x, y, rfl, hu, ht, rfl⟩ := ha.parts
 obtain ⟨t, F, k, f, H, l, h, z, v, rfl, hv, hw, rfl⟩ := hb.parts
 have px : (zi s x).natAbs < Q ^ L := by rw [zi_abs]; exact hu.lt
 have pz : (zi t z).natAbs < Q ^ L := by rw [zi_abs]; exact hv.lt
 have py : ((dn y : Nat) : Int).natAbs < Q ^ L := by rw [Int.natAbs_natCast]; exact dn_lt ht.lt h1
 have pv : ((dn v : Nat) : Int).natAbs < Q ^ L := by rw [Int.natAbs_natCast]; exact dn_lt hw.lt h1
 have KP := hide (prod_lt px pv)
 have KQ := hide (prod_lt pz py)
 have KR := hide (prod_lt py pv)
 obtain ⟨b2, hz, ⟨p0, p1, p2⟩, ⟨q0, q1, q2⟩, hlt⟩ := f_world3 w s t A D F H n c m d k f l h
 have nu : Nw (((((w.alloc (rbox s (.slice A n c) (.slice D m d))).alloc (rbox t (.slice F k f) (.slice H l h))).alloc zblk).alloc zblk).alloc zblk).drew (.slice A n c) x L := hu.step b2
 have nt : Nw (((((w.alloc (rbox s (.slice A n c) (.slice D m d))).alloc (rbox t (.slice F k f) (.slice H l h))).alloc zblk).alloc zblk).alloc zblk).drew (.slice D m d) y L := ht.step b2
 have nv : Nw (((((w.alloc (rbox s (.slice A n c) (.slice D m d))).alloc (rbox t (.slice F k f) (.slice H l h))).alloc zblk).alloc zblk).alloc zblk).drew (.slice F k f) z L := hv.step b2
 have nw : Nw (((((w.alloc (rbox s (.slice A n c) (.slice D m d))).alloc (rbox t (.slice F k f) (.slice H l h))).alloc zblk).alloc zblk).alloc zblk).drew (.slice H l h) v L := hw.step b2
 have za : Za (((((w.alloc (rbox s (.slice A n c) (.slice D m d))).alloc (rbox t (.slice F k f) (.slice H l h))).alloc zblk).alloc zblk).alloc zblk).drew (zv s (.slice A n c)) (zi s x) L := Za.of nu
 have zb : Za (((((w.alloc (rbox s (.slice A n c) (.slice D m d))).alloc (rbox t (.slice F k f) (.slice H l h))).alloc zblk).alloc zblk).alloc zblk).drew (zv t (.slice F k f)) (zi t z) L := Za.of nv
 have B := hide b2
 have Z := hide hz
 have NU := hide nu
 have NT := hide nt
 have NV := hide nv
 have NW := hide nw
 have HLT := hide hlt
 clear ha hb hu ht hv hw b2 hz px pz py pv nu nt nv nw hlt
 go_enter Tryz.func65, Tryz.ntmps65
 go_wp2_with fail
 generalize hW0 : (((((w.alloc (rbox s (.slice A n c) (.slice D m d))).alloc (rbox t (.slice F k f) (.slice H l h))).alloc zblk).alloc zblk).alloc zblk) = W0 at *
 refine wp_region_held_drew (S := fun W => Below W0.drew.heap.size W0.drew W) (by kernel_rfl) (Below.refl _ _) (fun hHeld => ?_)
 refine wpAnyH_with 2 #[true, true, true, true, true, true, false, false] (fun a W => ∃ (A7 : Option Addr) (n7 c7 : Nat) (A8 : Option Addr) (n8 c8 : Nat) (gA : Nat) (gB : Nat), a = ⟨#[rv s (.slice A n c) (.slice D m d), rv t (.slice F k f) (.slice H l h), .pointer (some ⟨w.heap.size, 0, none⟩), .pointer (some ⟨w.heap.size + 1, 0, none⟩), .pointer (some ⟨w.heap.size + 1 + 1, 0, none⟩), .pointer (some ⟨w.heap.size + 1 + 1 + 1, 0, none⟩), .pointer (some ⟨w.heap.size + 1 + 1 + 1 + 1, 0, none⟩), .pointer (some ⟨gA, 0, none⟩), .pointer (some ⟨gB, 0, none⟩), rv s (.slice A n c) (.slice D m d), zv false (.slice A7 n7 c7), rv t (.slice F k f) (.slice H l h), zv false (.slice A8 n8 c8), undef, undef, undef, undef, undef, undef, undef, undef, undef, undef, undef, undef, undef, undef, undef, undef, undef, undef, undef, undef], []⟩ ∧ St W0.drew.heap.size W0.drew W true true gA gB (fun W => ((True ∧ Za W (zv false (.slice A7 n7 c7)) ((dn y : Nat) : Int) L) ∧ Za W (zv false (.slice A8 n8 c8)) ((dn v : Nat) : Int) L))) ?_ (fun Hs211 => ?_)
 ·rintro a W ⟨A7, n7, c7, A8, n8, c8, gA, gB, rfl, st0⟩
  have hHeld := st0.1
  have st := hide st0
  clear st0
  obtain ⟨k0, k1, f0, f1, st1⟩ := St.putA st.out (Firm.and (Firm.and Firm.yes (Firm.za _ _ _)) (Firm.za _ _ _)) false A7 n7 c7
  refine wpAnyH_ready (rs := [6]) (by kernel_rfl) (by simp) ?_
  refine AllReadyH.cons rfl (fun K hK => ?_) ?_
  rotate_left
  ·exact AllReadyH.nil
  go_simp
  refine hK.out _ _ st1.out.1 (fun hHeld => ?_)
  clear hK K k0 k1 f0 f1 st
  (try go_frame)
  generalize ((W.setCell ⟨gA, 0, none⟩ _).setCell ⟨gA, 1, none⟩ _) = W2 at *
  obtain ⟨k0, k1, f0, f1, st3⟩ := St1.putB st1.out (Firm.and (Firm.and Firm.yes (Firm.za _ _ _)) (Firm.za _ _ _)) false A8 n8 c8
  refine wpAnyH_ready (rs := [7]) (by kernel_rfl) (by simp) ?_
  refine AllReadyH.cons rfl (fun K hK => ?_) ?_
  rotate_left
  ·exact AllReadyH.nil
  go_simp
  refine hK.out _ _ st3.out.1 (fun hHeld => ?_)
  clear hK K k0 k1 f0 f1 st1
  (try go_frame)
  generalize ((W2.setCell ⟨gB, 0, none⟩ _).setCell ⟨gB, 1, none⟩ _) = W3 at *
  refine wpAnyH_done (by kernel_rfl) ?_ _
  clear hHeld
  obtain ⟨b3, hs3, ⟨⟨-, z7⟩, z8⟩, ⟨a0, a1⟩, ⟨d0, d1⟩, lA, lB, hAB⟩ := st3.out
  clear st3
  have Z7 := hide z7
  have Z8 := hide z8
  have B3 := hide b3
  clear b3 z7 z8
  have CM := hide (zcmp_any Z7.out Z8.out (by omega) (by omega))
  have hcase : (dn y = dn v ∧ Hid (cmpZ (dn y : Int) (dn v : Int) = 0)) ∨ (∃ o, Hid (cmpZ (dn y : Int) (dn v : Int) = o) ∧ (o == 0) = false) := by
   by_cases h : dn y = dn v
   ·exact .inl ⟨h, hide (by rw [h]; exact cmpZ_same _)⟩
   ·exact .inr ⟨_, hide rfl, beq_eq_false_iff_ne.2 (by unfold cmpZ; split <;> (try split) <;> omega)⟩
  have HSZ := HLT.out
  rcases hcase with ⟨hyv, ho⟩ | ⟨o, ho, t0⟩
  all_goals rw [ho.out] at CM
  all_goals clear ho
  all_goals go_wp2_with fail
  all_goals refine CM.out.mono ?_
  all_goals rintro e W4 ⟨rfl, b4⟩
  all_goals
   have b5 := Below.drew b4
   have b6 := B3.out.trans (b5.mono hs3)
   have z1 := Z.out.1.step (by omega) b6
   have z2 := Z.out.2.1.step (by omega) b6
   have z3 := Z.out.2.2.step (by omega) b6
   have B6 := hide (Below.step B.out B.out.size b6)
   have p0 := cell_keep p0 b6
   have p1 := cell_keep p1 b6
   have p2 := cell_keep p2 b6
   have q0 := cell_keep q0 b6
   have q1 := cell_keep q1 b6
   have q2 := cell_keep q2 b6
   have a0 := cell_keep a0 b5
   have a1 := cell_keep a1 b5
   have d0 := cell_keep d0 b5
   have d1 := cell_keep d1 b5
   have Z7 := hide (Z7.out.step b5)
   have Z8 := hide (Z8.out.step b5)
   have ZA := hide (za.step b6)
   have ZB := hide (zb.step b6)
   clear CM b4 b5 b6 B3 B Z NU NT NV NW za zb hW0
  ·have k0 := z1.c0
   have k1 := z1.c1
   have f0 := z1.fz 0
   have f1 := z1.fz 1
   have k2 := z2.c0
   have k3 := z2.c1
   have f2 := z2.fz 0
   have f3 := z2.fz 1
   have k4 := z3.c0
   have k5 := z3.c1
   have f4 := z3.fz 0
   have f5 := z3.fz 1
   have P3 := hide (put3 (F := fun W => (Za W (zv s (.slice A n c)) (zi s x) L ∧ Za W (zv t (.slice F k f)) (zi t z) L) ∧ Za W (zv false (.slice A7 n7 c7)) ((dn y : Nat) : Int) L) B6.out z1 z2 z3 (by omega) (by omega) (by omega) (by omega) (by omega) (by omega) (Firm.and (Firm.and (Firm.za _ _ _) (Firm.za _ _ _)) (Firm.za _ _ _)) ⟨⟨ZA.out, ZB.out⟩, Z7.out⟩ (.bool s) (.bool t) (.bool false) (.slice A n c) (.slice F k f) (.slice A7 n7 c7))
   clear z1 z2 z3 ZA ZB Z7 Z8 B6
   go_wp2_with fail
   refine wp_region_held_drew (S := fun W => W.cell? ⟨w.heap.size, 0, none⟩ = some (.bool s) ∧ W.cell? ⟨w.heap.size, 1, none⟩ = some (.slice A n c) ∧ W.cell? ⟨w.heap.size, 2, none⟩ = some (.slice D m d) ∧ W.cell? ⟨w.heap.size + 1, 0, none⟩ = some (.bool t) ∧ W.cell? ⟨w.heap.size + 1, 1, none⟩ = some (.slice F k f) ∧ W.cell? ⟨w.heap.size + 1, 2, none⟩ = some (.slice H l h) ∧ W.cell? ⟨gA, 0, none⟩ = some (.bool false) ∧ W.cell? ⟨gA, 1, none⟩ = some (.slice A7 n7 c7) ∧ W.cell? ⟨gB, 0, none⟩ = some (.bool false) ∧ W.cell? ⟨gB, 1, none⟩ = some (.slice A8 n8 c8)) (by kernel_rfl) ?_ (fun hHeld => ?_)
   ·exact ⟨p0, p1, p2, q0, q1, q2, a0, a1, d0, d1⟩
   generalize W4.drew = W5 at *
   refine wpAnyH_take (i := 0) (v := ?_) rfl (by kernel_rfl) (by kernel_rfl) (by kernel_rfl) (fun _ _ _ h => h) (Or.inl ⟨?_, ?_⟩) (by assumption) ?_
   rotate_left
   ·rfl
   ·(intro w hSw; (try dsimp only at hSw); go_simp; try with_reducible rfl)
   (try go_frame)
   refine wpAnyH_take (i := 1) (v := ?_) rfl (by kernel_rfl) (by kernel_rfl) (by kernel_rfl) (fun _ _ _ h => h) (Or.inl ⟨?_, ?_⟩) (by assumption) ?_
   rotate_left
   ·rfl
   ·(intro w hSw; (try dsimp only at hSw); go_simp; try with_reducible rfl)
   (try go_frame)
   refine wpAnyH_take (i := 2) (v := ?_) rfl (by kernel_rfl) (by kernel_rfl) (by kernel_rfl) (fun _ _ _ h => h) (Or.inl ⟨?_, ?_⟩) (by assumption) ?_
   rotate_left
   ·rfl
   ·(intro w hSw; (try dsimp only at hSw); go_simp; try with_reducible rfl)
   (try go_frame)
   refine wpAnyH_take (i := 3) (v := ?_) rfl (by kernel_rfl) (by kernel_rfl) (by kernel_rfl) (fun _ _ _ h => h) (Or.inl ⟨?_, ?_⟩) (by assumption) ?_
   rotate_left
   ·rfl
   ·(intro w hSw; (try dsimp only at hSw); go_simp; try with_reducible rfl)
   (try go_frame)
   refine wpAnyH_take (i := 4) (v := ?_) rfl (by kernel_rfl) (by kernel_rfl) (by kernel_rfl) (fun _ _ _ h => h) (Or.inl ⟨?_, ?_⟩) (by assumption) ?_
   rotate_left
   ·rfl
   ·(intro w hSw; (try dsimp only at hSw); go_simp; try with_reducible rfl)
   (try go_frame)
   refine wpAnyH_ready (rs := [5]) (by kernel_rfl) (by simp) ?_
   refine AllReadyH.cons rfl (fun K hK => ?_) ?_
   rotate_left
   ·exact AllReadyH.nil
   go_simp
   refine hK.out _ _ ?_ (fun hHeld => ?_)
   ·with_reducible exact ⟨cell_zset (p0) (by simp <;> omega) _ _, cell_zset (p1) (by simp <;> omega) _ _, cell_zset (p2) (by simp <;> omega) _ _, cell_zset (q0) (by simp <;> omega) _ _, cell_zset (q1) (by simp <;> omega) _ _, cell_zset (q2) (by simp <;> omega) _ _, cell_zset (a0) (by simp <;> omega) _ _, cell_zset (a1) (by simp <;> omega) _ _, cell_zset (d0) (by simp <;> omega) _ _, cell_zset (d1) (by simp <;> omega) _ _⟩
   clear hK K
   (try go_frame)
   refine wpAnyH_ready (rs := [6]) (by kernel_rfl) (by simp) ?_
   refine AllReadyH.cons rfl (fun K hK => ?_) ?_
   rotate_left
   ·exact AllReadyH.nil
   go_simp
   refine hK.out _ _ ?_ (fun hHeld => ?_)
   ·with_reducible exact ⟨cell_zset (cell_zset (p0) (by simp <;> omega) _ _) (by simp <;> omega) _ _, cell_zset (cell_zset (p1) (by simp <;> omega) _ _) (by simp <;> omega) _ _, cell_zset (cell_zset (p2) (by simp <;> omega) _ _) (by simp <;> omega) _ _, cell_zset (cell_zset (q0) (by simp <;> omega) _ _) (by simp <;> omega) _ _, cell_zset (cell_zset (q1) (by simp <;> omega) _ _) (by simp <;> omega) _ _, cell_zset (cell_zset (q2) (by simp <;> omega) _ _) (by simp <;> omega) _ _, cell_zset (cell_zset (a0) (by simp <;> omega) _ _) (by simp <;> omega) _ _, cell_zset (cell_zset (a1) (by simp <;> omega) _ _) (by simp <;> omega) _ _, cell_zset (cell_zset (d0) (by simp <;> omega) _ _) (by simp <;> omega) _ _, cell_zset (cell_zset (d1) (by simp <;> omega) _ _) (by simp <;> omega) _ _⟩
   clear hK K
   (try go_frame)
   refine wpAnyH_ready (rs := [7]) (by kernel_rfl) (by simp) ?_
   refine AllReadyH.cons rfl (fun K hK => ?_) ?_
   rotate_left
   ·exact AllReadyH.nil
   go_simp
   refine hK.out _ _ ?_ (fun hHeld => ?_)
   ·with_reducible exact ⟨cell_zset (cell_zset (cell_zset (p0) (by simp <;> omega) _ _) (by simp <;> omega) _ _) (by simp <;> omega) _ _, cell_zset (cell_zset (cell_zset (p1) (by simp <;> omega) _ _) (by simp <;> omega) _ _) (by simp <;> omega) _ _, cell_zset (cell_zset (cell_zset (p2) (by simp <;> omega) _ _) (by simp <;> omega) _ _) (by simp <;> omega) _ _, cell_zset (cell_zset (cell_zset (q0) (by simp <;> omega) _ _) (by simp <;> omega) _ _) (by simp <;> omega) _ _, cell_zset (cell_zset (cell_zset (q1) (by simp <;> omega) _ _) (by simp <;> omega) _ _) (by simp <;> omega) _ _, cell_zset (cell_zset (cell_zset (q2) (by simp <;> omega) _ _) (by simp <;> omega) _ _) (by simp <;> omega) _ _, cell_zset (cell_zset (cell_zset (a0) (by simp <;> omega) _ _) (by simp <;> omega) _ _) (by simp <;> omega) _ _, cell_zset (cell_zset (cell_zset (a1) (by simp <;> omega) _ _) (by simp <;> omega) _ _) (by simp <;> omega) _ _, cell_zset (cell_zset (cell_zset (d0) (by simp <;> omega) _ _) (by simp <;> omega) _ _) (by simp <;> omega) _ _, cell_zset (cell_zset (cell_zset (d1) (by simp <;> omega) _ _) (by simp <;> omega) _ _) (by simp <;> omega) _ _⟩
   clear hK K
   (try go_frame)
   refine wpAnyH_done (by kernel_rfl) ?_ _
   clear k0 k1 k2 k3 k4 k5 f0 f1 f2 f3 f4 f5 p0 p1 p2 q0 q1 q2 a0 a1 d0 d1 hHeld
   go_wp2_with fail
   refine bodyPost_ret (zret333 (p := 4) (q := 5) (r := 6) rfl _ _ (w.heap.size + 1 + 1) (w.heap.size + 1 + 1 + 1) (w.heap.size + 1 + 1 + 1 + 1) #[.bool s, .slice A n c] #[.bool t, .slice F k f] #[.bool false, .slice A7 n7 c7] rfl rfl rfl rfl rfl rfl P3.out.1 P3.out.2.1 P3.out.2.2.1) rfl ?_
   obtain ⟨-, -, -, ⟨⟨x1, x2⟩, x3⟩, x4⟩ := P3.out
   exact ⟨_, _, _, _, _, _, rfl, x1.more (by omega), x2.more (by omega), x3.more (by omega), dn_pos y, rfl, by rw [hyv], x4⟩
  ·have P3 : Hid (∀ wx : World, Below W4.drew.heap.size W4.drew wx → ∀ (s1 s2 s3 : Bool) (A1 A2 A3 : Option Addr) (n1 n2 n3 c1 c2 c3 : Nat), Za wx (zv s1 (.slice A1 n1 c1)) (zi s x * (dn v : Int)) (2 * L) → Za wx (zv s2 (.slice A2 n2 c2)) (zi t z * (dn y : Int)) (2 * L) → Za wx (zv s3 (.slice A3 n3 c3)) ((dn y : Int) * (dn v : Int)) (2 * L) → _) := hide (fun wx hb s1 s2 s3 A1 A2 A3 n1 n2 n3 c1 c2 c3 y1 y2 y3 =>
     put3 (F := fun W => (Za W (zv s1 (.slice A1 n1 c1)) (zi s x * (dn v : Int)) (2 * L) ∧ Za W (zv s2 (.slice A2 n2 c2)) (zi t z * (dn y : Int)) (2 * L)) ∧ Za W (zv s3 (.slice A3 n3 c3)) ((dn y : Int) * (dn v : Int)) (2 * L)) (Below.step B6.out B6.out.size hb) (z1.step (Zb.lt z1) hb) (z2.step (Zb.lt z2) hb) (z3.step (Zb.lt z3) hb) (by omega) (by omega) (by omega) (by omega) (by omega) (by omega) (Firm.and (Firm.and (Firm.za _ _ _) (Firm.za _ _ _)) (Firm.za _ _ _)) ⟨⟨y1, y2⟩, y3⟩ (.bool s1) (.bool s2) (.bool s3) (.slice A1 n1 c1) (.slice A2 n2 c2) (.slice A3 n3 c3))
   have Z1 := hide z1
   have Z2 := hide z2
   have Z3 := hide z3
   clear z1 z2 z3
   go_wp2_with fail
   go_region_held3 (fun W => W.cell? ⟨w.heap.size, 0, none⟩ = some (.bool s) ∧ W.cell? ⟨w.heap.size, 1, none⟩ = some (.slice A n c) ∧ W.cell? ⟨w.heap.size, 2, none⟩ = some (.slice D m d) ∧ W.cell? ⟨w.heap.size + 1, 0, none⟩ = some (.bool t) ∧ W.cell? ⟨w.heap.size + 1, 1, none⟩ = some (.slice F k f) ∧ W.cell? ⟨w.heap.size + 1, 2, none⟩ = some (.slice H l h) ∧ W.cell? ⟨gA, 0, none⟩ = some (.bool false) ∧ W.cell? ⟨gA, 1, none⟩ = some (.slice A7 n7 c7) ∧ W.cell? ⟨gB, 0, none⟩ = some (.bool false) ∧ W.cell? ⟨gB, 1, none⟩ = some (.slice A8 n8 c8))
    (first | with_reducible exact ⟨p0, p1, p2, q0, q1, q2, a0, a1, d0, d1⟩ | with_reducible exact ⟨cell_keep (p0) bx1, cell_keep (p1) bx1, cell_keep (p2) bx1, cell_keep (q0) bx1, cell_keep (q1) bx1, cell_keep (q2) bx1, cell_keep (a0) bx1, cell_keep (a1) bx1, cell_keep (d0) bx1, cell_keep (d1) bx1⟩ | with_reducible exact ⟨cell_keep (cell_keep (p0) bx1) bx2, cell_keep (cell_keep (p1) bx1) bx2, cell_keep (cell_keep (p2) bx1) bx2, cell_keep (cell_keep (q0) bx1) bx2, cell_keep (cell_keep (q1) bx1) bx2, cell_keep (cell_keep (q2) bx1) bx2, cell_keep (cell_keep (a0) bx1) bx2, cell_keep (cell_keep (a1) bx1) bx2, cell_keep (cell_keep (d0) bx1) bx2, cell_keep (cell_keep (d1) bx1) bx2⟩ | with_reducible exact ⟨cell_keep (cell_keep (cell_keep (p0) bx1) bx2) bx3, cell_keep (cell_keep (cell_keep (p1) bx1) bx2) bx3, cell_keep (cell_keep (cell_keep (p2) bx1) bx2) bx3, cell_keep (cell_keep (cell_keep (q0) bx1) bx2) bx3, cell_keep (cell_keep (cell_keep (q1) bx1) bx2) bx3, cell_keep (cell_keep (cell_keep (q2) bx1) bx2) bx3, cell_keep (cell_keep (cell_keep (a0) bx1) bx2) bx3, cell_keep (cell_keep (cell_keep (a1) bx1) bx2) bx3, cell_keep (cell_keep (cell_keep (d0) bx1) bx2) bx3, cell_keep (cell_keep (cell_keep (d1) bx1) bx2) bx3⟩ | with_reducible exact ⟨cell_zset (cell_keep (cell_keep (cell_keep (p0) bx1) bx2) bx3) (by simp <;> omega) _ _, cell_zset (cell_keep (cell_keep (cell_keep (p1) bx1) bx2) bx3) (by simp <;> omega) _ _, cell_zset (cell_keep (cell_keep (cell_keep (p2) bx1) bx2) bx3) (by simp <;> omega) _ _, cell_zset (cell_keep (cell_keep (cell_keep (q0) bx1) bx2) bx3) (by simp <;> omega) _ _, cell_zset (cell_keep (cell_keep (cell_keep (q1) bx1) bx2) bx3) (by simp <;> omega) _ _, cell_zset (cell_keep (cell_keep (cell_keep (q2) bx1) bx2) bx3) (by simp <;> omega) _ _, cell_zset (cell_keep (cell_keep (cell_keep (a0) bx1) bx2) bx3) (by simp <;> omega) _ _, cell_zset (cell_keep (cell_keep (cell_keep (a1) bx1) bx2) bx3) (by simp <;> omega) _ _, cell_zset (cell_keep (cell_keep (cell_keep (d0) bx1) bx2) bx3) (by simp <;> omega) _ _, cell_zset (cell_keep (cell_keep (cell_keep (d1) bx1) bx2) bx3) (by simp <;> omega) _ _⟩ | with_reducible exact ⟨cell_zset (cell_zset (cell_keep (cell_keep (cell_keep (p0) bx1) bx2) bx3) (by simp <;> omega) _ _) (by simp <;> omega) _ _, cell_zset (cell_zset (cell_keep (cell_keep (cell_keep (p1) bx1) bx2) bx3) (by simp <;> omega) _ _) (by simp <;> omega) _ _, cell_zset (cell_zset (cell_keep (cell_keep (cell_keep (p2) bx1) bx2) bx3) (by simp <;> omega) _ _) (by simp <;> omega) _ _, cell_zset (cell_zset (cell_keep (cell_keep (cell_keep (q0) bx1) bx2) bx3) (by simp <;> omega) _ _) (by simp <;> omega) _ _, cell_zset (cell_zset (cell_keep (cell_keep (cell_keep (q1) bx1) bx2) bx3) (by simp <;> omega) _ _) (by simp <;> omega) _ _, cell_zset (cell_zset (cell_keep (cell_keep (cell_keep (q2) bx1) bx2) bx3) (by simp <;> omega) _ _) (by simp <;> omega) _ _, cell_zset (cell_zset (cell_keep (cell_keep (cell_keep (a0) bx1) bx2) bx3) (by simp <;> omega) _ _) (by simp <;> omega) _ _, cell_zset (cell_zset (cell_keep (cell_keep (cell_keep (a1) bx1) bx2) bx3) (by simp <;> omega) _ _) (by simp <;> omega) _ _, cell_zset (cell_zset (cell_keep (cell_keep (cell_keep (d0) bx1) bx2) bx3) (by simp <;> omega) _ _) (by simp <;> omega) _ _, cell_zset (cell_zset (cell_keep (cell_keep (cell_keep (d1) bx1) bx2) bx3) (by simp <;> omega) _ _) (by simp <;> omega) _ _⟩ | with_reducible exact ⟨cell_zset (cell_zset (cell_zset (cell_keep (cell_keep (cell_keep (p0) bx1) bx2) bx3) (by simp <;> omega) _ _) (by simp <;> omega) _ _) (by simp <;> omega) _ _, cell_zset (cell_zset (cell_zset (cell_keep (cell_keep (cell_keep (p1) bx1) bx2) bx3) (by simp <;> omega) _ _) (by simp <;> omega) _ _) (by simp <;> omega) _ _, cell_zset (cell_zset (cell_zset (cell_keep (cell_keep (cell_keep (p2) bx1) bx2) bx3) (by simp <;> omega) _ _) (by simp <;> omega) _ _) (by simp <;> omega) _ _, cell_zset (cell_zset (cell_zset (cell_keep (cell_keep (cell_keep (q0) bx1) bx2) bx3) (by simp <;> omega) _ _) (by simp <;> omega) _ _) (by simp <;> omega) _ _, cell_zset (cell_zset (cell_zset (cell_keep (cell_keep (cell_keep (q1) bx1) bx2) bx3) (by simp <;> omega) _ _) (by simp <;> omega) _ _) (by simp <;> omega) _ _, cell_zset (cell_zset (cell_zset (cell_keep (cell_keep (cell_keep (q2) bx1) bx2) bx3) (by simp <;> omega) _ _) (by simp <;> omega) _ _) (by simp <;> omega) _ _, cell_zset (cell_zset (cell_zset (cell_keep (cell_keep (cell_keep (a0) bx1) bx2) bx3) (by simp <;> omega) _ _) (by simp <;> omega) _ _) (by simp <;> omega) _ _, cell_zset (cell_zset (cell_zset (cell_keep (cell_keep (cell_keep (a1) bx1) bx2) bx3) (by simp <;> omega) _ _) (by simp <;> omega) _ _) (by simp <;> omega) _ _, cell_zset (cell_zset (cell_zset (cell_keep (cell_keep (cell_keep (d0) bx1) bx2) bx3) (by simp <;> omega) _ _) (by simp <;> omega) _ _) (by simp <;> omega) _ _, cell_zset (cell_zset (cell_zset (cell_keep (cell_keep (cell_keep (d1) bx1) bx2) bx3) (by simp <;> omega) _ _) (by simp <;> omega) _ _) (by simp <;> omega) _ _⟩)
    (first
     | (go_at_call 49; refine Calls.mono (zmul_a (a := zi s x) (b := (dn v : Int)) (L := L) (M := L) (K := 2 * L) ZA.out Z8.out (by omega) (by omega) KP.out) ?_; rintro e wx1 ⟨vx1, rfl, tx1, bx1⟩; obtain ⟨A21, n21, c21, rfl, -⟩ := tx1.lw (by omega))
     | (go_at_call 49; refine Calls.mono (zmul_a (a := zi t z) (b := (dn y : Int)) (L := L) (M := L) (K := 2 * L) (ZB.out.step bx1) (Z7.out.step bx1) (by omega) (by omega) KQ.out) ?_; rintro e wx2 ⟨vx2, rfl, tx2, bx2⟩; obtain ⟨A22, n22, c22, rfl, -⟩ := tx2.lw (by omega))
     | (go_at_call 49; refine Calls.mono (zmul_a (a := (dn y : Int)) (b := (dn v : Int)) (L := L) (M := L) (K := 2 * L) ((Z7.out.step bx1).step bx2) ((Z8.out.step bx1).step bx2) (by omega) (by omega) KR.out) ?_; rintro e wx3 ⟨vx3, rfl, tx3, bx3⟩; obtain ⟨A23, n23, c23, rfl, -⟩ := tx3.lw (by omega); have bw := (Below.step1 bx1 (Below.step1 bx2 bx3)); obtain ⟨k0, k1, f0, f1⟩ := Zb.all (Z1.out.step (Zb.lt Z1.out) bw); obtain ⟨k2, k3, f2, f3⟩ := Zb.all (Z2.out.step (Zb.lt Z2.out) bw); obtain ⟨k4, k5, f4, f5⟩ := Zb.all (Z3.out.step (Zb.lt Z3.out) bw); have P4 := hide (P3.out wx3 bw _ _ _ A21 A22 A23 n21 n22 n23 c21 c22 c23 ((tx1.za.step bx2).step bx3) (tx2.za.step bx3) tx3.za); clear bw))
   all_goals
    clear P3
    clear k0 k1 k2 k3 k4 k5 f0 f1 f2 f3 f4 f5 p0 p1 p2 q0 q1 q2 a0 a1 d0 d1 tx1 tx2 tx3 bx1 bx2 bx3 Z1 Z2 Z3
    go_wp2_with fail
    refine bodyPost_ret (zret333 (p := 4) (q := 5) (r := 6) rfl _ _ (w.heap.size + 1 + 1) (w.heap.size + 1 + 1 + 1) (w.heap.size + 1 + 1 + 1 + 1) #[.bool _, .slice A21 n21 c21] #[.bool _, .slice A22 n22 c22] #[.bool _, .slice A23 n23 c23] rfl rfl rfl rfl rfl rfl P4.out.1 P4.out.2.1 P4.out.2.2.1) rfl ?_
    obtain ⟨-, -, -, ⟨⟨x1, x2⟩, x3⟩, x4⟩ := P4.out
    refine ⟨_, _, _, _, _, dn y * dn v, rfl, x1, x2, by rw [Int.natCast_mul]; exact x3, Nat.mul_pos (dn_pos y) (dn_pos v), ?_, ?_, x4⟩
    ·exact (Rat.mkRat_mul_right (by have := dn_pos v; omega)).symm
    ·rw [Nat.mul_comm (dn y)]; exact (Rat.mkRat_mul_right (by have := dn_pos y; omega)).symm
 refine wpAnyH_with 3 #[true, true, true, true, true, false, false, false] (fun a W => ∃ (A7 : Option Addr) (n7 c7 : Nat) (A8 : Option Addr) (n8 c8 : Nat) (gA : Nat), a = ⟨#[rv s (.slice A n c) (.slice D m d), rv t (.slice F k f) (.slice H l h), .pointer (some ⟨w.heap.size, 0, none⟩), .pointer (some ⟨w.heap.size + 1, 0, none⟩), .pointer (some ⟨w.heap.size + 1 + 1, 0, none⟩), .pointer (some ⟨w.heap.size + 1 + 1 + 1, 0, none⟩), .pointer (some ⟨w.heap.size + 1 + 1 + 1 + 1, 0, none⟩), .pointer (some ⟨gA, 0, none⟩), undef, rv s (.slice A n c) (.slice D m d), zv false (.slice A7 n7 c7), rv t (.slice F k f) (.slice H l h), zv false (.slice A8 n8 c8), undef, undef, undef, undef, undef, undef, undef, undef, undef, undef, undef, undef, undef, undef, undef, undef, undef, undef, undef, undef], []⟩ ∧ St W0.drew.heap.size W0.drew W true false gA 0 (fun W => ((True ∧ Za W (zv false (.slice A7 n7 c7)) ((dn y : Nat) : Int) L) ∧ Za W (zv false (.slice A8 n8 c8)) ((dn v : Nat) : Int) L))) ?_ (fun Hs210 => ?_)
 ·rintro a W ⟨A7, n7, c7, A8, n8, c8, gA, rfl, st0⟩
  have hHeld := st0.1
  have st := hide st0
  clear st0
  refine wpAnyH_ready (rs := [5]) (by kernel_rfl) (by simp) ?_
  refine AllReadyH.cons rfl (fun K hK => ?_) ?_
  ·go_simp
   have st2 := St.makeB st.out (Firm.and (Firm.and Firm.yes (Firm.za _ _ _)) (Firm.za _ _ _))
   refine hK.out _ _ st2.1 (fun hHeld => ?_)
   (try go_frame)
   exact Hs211.out _ _ ⟨A7, n7, c7, A8, n8, c8, gA, W.heap.size, rfl, st2⟩
  exact AllReadyH.nil
 refine wpAnyH_with 3 #[true, true, true, true, false, true, false, false] (fun a W => ∃ (A7 : Option Addr) (n7 c7 : Nat) (A8 : Option Addr) (n8 c8 : Nat) (gB : Nat), a = ⟨#[rv s (.slice A n c) (.slice D m d), rv t (.slice F k f) (.slice H l h), .pointer (some ⟨w.heap.size, 0, none⟩), .pointer (some ⟨w.heap.size + 1, 0, none⟩), .pointer (some ⟨w.heap.size + 1 + 1, 0, none⟩), .pointer (some ⟨w.heap.size + 1 + 1 + 1, 0, none⟩), .pointer (some ⟨w.heap.size + 1 + 1 + 1 + 1, 0, none⟩), undef, .pointer (some ⟨gB, 0, none⟩), rv s (.slice A n c) (.slice D m d), zv false (.slice A7 n7 c7), rv t (.slice F k f) (.slice H l h), zv false (.slice A8 n8 c8), undef, undef, undef, undef, undef, undef, undef, undef, undef, undef, undef, undef, undef, undef, undef, undef, undef, undef, undef, undef], []⟩ ∧ St W0.drew.heap.size W0.drew W false true 0 gB (fun W => ((True ∧ Za W (zv false (.slice A7 n7 c7)) ((dn y : Nat) : Int) L) ∧ Za W (zv false (.slice A8 n8 c8)) ((dn v : Nat) : Int) L))) ?_ (fun Hs201 => ?_)
 ·rintro a W ⟨A7, n7, c7, A8, n8, c8, gB, rfl, st0⟩
  have hHeld := st0.1
  have st := hide st0
  clear st0
  refine wpAnyH_ready (rs := [4]) (by kernel_rfl) (by simp) ?_
  refine AllReadyH.cons rfl (fun K hK => ?_) ?_
  ·go_simp
   have st2 := St.makeA st.out (Firm.and (Firm.and Firm.yes (Firm.za _ _ _)) (Firm.za _ _ _))
   refine hK.out _ _ st2.1 (fun hHeld => ?_)
   (try go_frame)
   exact Hs211.out _ _ ⟨A7, n7, c7, A8, n8, c8, W.heap.size, gB, rfl, st2⟩
  exact AllReadyH.nil
 refine wpAnyH_with 4 #[true, true, true, true, false, false, false, false] (fun a W => ∃ (A7 : Option Addr) (n7 c7 : Nat) (A8 : Option Addr) (n8 c8 : Nat), a = ⟨#[rv s (.slice A n c) (.slice D m d), rv t (.slice F k f) (.slice H l h), .pointer (some ⟨w.heap.size, 0, none⟩), .pointer (some ⟨w.heap.size + 1, 0, none⟩), .pointer (some ⟨w.heap.size + 1 + 1, 0, none⟩), .pointer (some ⟨w.heap.size + 1 + 1 + 1, 0, none⟩), .pointer (some ⟨w.heap.size + 1 + 1 + 1 + 1, 0, none⟩), undef, undef, rv s (.slice A n c) (.slice D m d), zv false (.slice A7 n7 c7), rv t (.slice F k f) (.slice H l h), zv false (.slice A8 n8 c8), undef, undef, undef, undef, undef, undef, undef, undef, undef, undef, undef, undef, undef, undef, undef, undef, undef, undef, undef, undef], []⟩ ∧ St W0.drew.heap.size W0.drew W false false 0 0 (fun W => ((True ∧ Za W (zv false (.slice A7 n7 c7)) ((dn y : Nat) : Int) L) ∧ Za W (zv false (.slice A8 n8 c8)) ((dn v : Nat) : Int) L))) ?_ (fun Hs200 => ?_)
 ·rintro a W ⟨A7, n7, c7, A8, n8, c8, rfl, st0⟩
  have hHeld := st0.1
  have st := hide st0
  clear st0
  refine wpAnyH_ready (rs := [4, 5]) (by kernel_rfl) (by simp) ?_
  refine AllReadyH.cons rfl (fun K hK => ?_) ?_
  ·go_simp
   have st2 := St.makeA st.out (Firm.and (Firm.and Firm.yes (Firm.za _ _ _)) (Firm.za _ _ _))
   refine hK.out _ _ st2.1 (fun hHeld => ?_)
   (try go_frame)
   exact Hs210.out _ _ ⟨A7, n7, c7, A8, n8, c8, W.heap.size, rfl, st2⟩
  refine AllReadyH.cons rfl (fun K hK => ?_) ?_
  ·go_simp
   have st2 := St.makeB st.out (Firm.and (Firm.and Firm.yes (Firm.za _ _ _)) (Firm.za _ _ _))
   refine hK.out _ _ st2.1 (fun hHeld => ?_)
   (try go_frame)
   exact Hs201.out _ _ ⟨A7, n7, c7, A8, n8, c8, W.heap.size, rfl, st2⟩
  exact AllReadyH.nil
 refine wpAnyH_with 3 #[true, true, true, false, true, true, false, false] (fun a W => ∃ (A7 : Option Addr) (n7 c7 : Nat) (gA : Nat) (gB : Nat), a = ⟨#[rv s (.slice A n c) (.slice D m d), rv t (.slice F k f) (.slice H l h), .pointer (some ⟨w.heap.size, 0, none⟩), .pointer (some ⟨w.heap.size + 1, 0, none⟩), .pointer (some ⟨w.heap.size + 1 + 1, 0, none⟩), .pointer (some ⟨w.heap.size + 1 + 1 + 1, 0, none⟩), .pointer (some ⟨w.heap.size + 1 + 1 + 1 + 1, 0, none⟩), .pointer (some ⟨gA, 0, none⟩), .pointer (some ⟨gB, 0, none⟩), rv s (.slice A n c) (.slice D m d), zv false (.slice A7 n7 c7), rv t (.slice F k f) (.slice H l h), undef, undef, undef, undef, undef, undef, undef, undef, undef, undef, undef, undef, undef, undef, undef, undef, undef, undef, undef, undef, undef], []⟩ ∧ St W0.drew.heap.size W0.drew W true true gA gB (fun W => (True ∧ Za W (zv false (.slice A7 n7 c7)) ((dn y : Nat) : Int) L))) ?_ (fun Hs111 => ?_)
 ·rintro a W ⟨A7, n7, c7, gA, gB, rfl, st0⟩
  have hHeld := st0.1
  have st := hide st0
  clear st0
  refine wpAnyH_ready (rs := [3]) (by kernel_rfl) (by simp) ?_
  refine AllReadyH.cons rfl (fun K hK => ?_) ?_
  ·go_simp
   go_at_call 45
   refine Calls.mono (under_s (s := t) (x := z) (y := v) (L := L) (NV.out.step st.out.1) (NW.out.step st.out.1) h1 (by omega)) ?_
   rintro e wx ⟨A8, n8, c8, rfl, tx, bx⟩
   try dsimp only
   have st2 := St.call (G := fun W => Za W (zv false (.slice A8 n8 c8)) ((dn v : Nat) : Int) L) st.out bx (Firm.and Firm.yes (Firm.za _ _ _)) tx
   have hSt := hide st2
   refine hK.out _ _ st2.1 (fun hHeld => ?_)
   clear hK K st2
   (try go_frame)
   exact Hs211.out _ _ ⟨A7, n7, c7, A8, n8, c8, gA, gB, rfl, hSt.out⟩
  exact AllReadyH.nil
 refine wpAnyH_with 4 #[true, true, true, false, true, false, false, false] (fun a W => ∃ (A7 : Option Addr) (n7 c7 : Nat) (gA : Nat), a = ⟨#[rv s (.slice A n c) (.slice D m d), rv t (.slice F k f) (.slice H l h), .pointer (some ⟨w.heap.size, 0, none⟩), .pointer (some ⟨w.heap.size + 1, 0, none⟩), .pointer (some ⟨w.heap.size + 1 + 1, 0, none⟩), .pointer (some ⟨w.heap.size + 1 + 1 + 1, 0, none⟩), .pointer (some ⟨w.heap.size + 1 + 1 + 1 + 1, 0, none⟩), .pointer (some ⟨gA, 0, none⟩), undef, rv s (.slice A n c) (.slice D m d), zv false (.slice A7 n7 c7), rv t (.slice F k f) (.slice H l h), undef, undef, undef, undef, undef, undef, undef, undef, undef, undef, undef, undef, undef, undef, undef, undef, undef, undef, undef, undef, undef], []⟩ ∧ St W0.drew.heap.size W0.drew W true false gA 0 (fun W => (True ∧ Za W (zv false (.slice A7 n7 c7)) ((dn y : Nat) : Int) L))) ?_ (fun Hs110 => ?_)
 ·rintro a W ⟨A7, n7, c7, gA, rfl, st0⟩
  have hHeld := st0.1
  have st := hide st0
  clear st0
  refine wpAnyH_ready (rs := [3, 5]) (by kernel_rfl) (by simp) ?_
  refine AllReadyH.cons rfl (fun K hK => ?_) ?_
  ·go_simp
   go_at_call 45
   refine Calls.mono (under_s (s := t) (x := z) (y := v) (L := L) (NV.out.step st.out.1) (NW.out.step st.out.1) h1 (by omega)) ?_
   rintro e wx ⟨A8, n8, c8, rfl, tx, bx⟩
   try dsimp only
   have st2 := St.call (G := fun W => Za W (zv false (.slice A8 n8 c8)) ((dn v : Nat) : Int) L) st.out bx (Firm.and Firm.yes (Firm.za _ _ _)) tx
   have hSt := hide st2
   refine hK.out _ _ st2.1 (fun hHeld => ?_)
   clear hK K st2
   (try go_frame)
   exact Hs210.out _ _ ⟨A7, n7, c7, A8, n8, c8, gA, rfl, hSt.out⟩
  refine AllReadyH.cons rfl (fun K hK => ?_) ?_
  ·go_simp
   have st2 := St.makeB st.out (Firm.and Firm.yes (Firm.za _ _ _))
   refine hK.out _ _ st2.1 (fun hHeld => ?_)
   (try go_frame)
   exact Hs111.out _ _ ⟨A7, n7, c7, gA, W.heap.size, rfl, st2⟩
  exact AllReadyH.nil
 refine wpAnyH_with 4 #[true, true, true, false, false, true, false, false] (fun a W => ∃ (A7 : Option Addr) (n7 c7 : Nat) (gB : Nat), a = ⟨#[rv s (.slice A n c) (.slice D m d), rv t (.slice F k f) (.slice H l h), .pointer (some ⟨w.heap.size, 0, none⟩), .pointer (some ⟨w.heap.size + 1, 0, none⟩), .pointer (some ⟨w.heap.size + 1 + 1, 0, none⟩), .pointer (some ⟨w.heap.size + 1 + 1 + 1, 0, none⟩), .pointer (some ⟨w.heap.size + 1 + 1 + 1 + 1, 0, none⟩), undef, .pointer (some ⟨gB, 0, none⟩), rv s (.slice A n c) (.slice D m d), zv false (.slice A7 n7 c7), rv t (.slice F k f) (.slice H l h), undef, undef, undef, undef, undef, undef, undef, undef, undef, undef, undef, undef, undef, undef, undef, undef, undef, undef, undef, undef, undef], []⟩ ∧ St W0.drew.heap.size W0.drew W false true 0 gB (fun W => (True ∧ Za W (zv false (.slice A7 n7 c7)) ((dn y : Nat) : Int) L))) ?_ (fun Hs101 => ?_)
 ·rintro a W ⟨A7, n7, c7, gB, rfl, st0⟩
  have hHeld := st0.1
  have st := hide st0
  clear st0
  refine wpAnyH_ready (rs := [3, 4]) (by kernel_rfl) (by simp) ?_
  refine AllReadyH.cons rfl (fun K hK => ?_) ?_
  ·go_simp
   go_at_call 45
   refine Calls.mono (under_s (s := t) (x := z) (y := v) (L := L) (NV.out.step st.out.1) (NW.out.step st.out.1) h1 (by omega)) ?_
   rintro e wx ⟨A8, n8, c8, rfl, tx, bx⟩
   try dsimp only
   have st2 := St.call (G := fun W => Za W (zv false (.slice A8 n8 c8)) ((dn v : Nat) : Int) L) st.out bx (Firm.and Firm.yes (Firm.za _ _ _)) tx
   have hSt := hide st2
   refine hK.out _ _ st2.1 (fun hHeld => ?_)
   clear hK K st2
   (try go_frame)
   exact Hs201.out _ _ ⟨A7, n7, c7, A8, n8, c8, gB, rfl, hSt.out⟩
  refine AllReadyH.cons rfl (fun K hK => ?_) ?_
  ·go_simp
   have st2 := St.makeA st.out (Firm.and Firm.yes (Firm.za _ _ _))
   refine hK.out _ _ st2.1 (fun hHeld => ?_)
   (try go_frame)
   exact Hs111.out _ _ ⟨A7, n7, c7, W.heap.size, gB, rfl, st2⟩
  exact AllReadyH.nil
 refine wpAnyH_with 5 #[true, true, true, false, false, false, false, false] (fun a W => ∃ (A7 : Option Addr) (n7 c7 : Nat), a = ⟨#[rv s (.slice A n c) (.slice D m d), rv t (.slice F k f) (.slice H l h), .pointer (some ⟨w.heap.size, 0, none⟩), .pointer (some ⟨w.heap.size + 1, 0, none⟩), .pointer (some ⟨w.heap.size + 1 + 1, 0, none⟩), .pointer (some ⟨w.heap.size + 1 + 1 + 1, 0, none⟩), .pointer (some ⟨w.heap.size + 1 + 1 + 1 + 1, 0, none⟩), undef, undef, rv s (.slice A n c) (.slice D m d), zv false (.slice A7 n7 c7), rv t (.slice F k f) (.slice H l h), undef, undef, undef, undef, undef, undef, undef, undef, undef, undef, undef, undef, undef, undef, undef, undef, undef, undef, undef, undef, undef], []⟩ ∧ St W0.drew.heap.size W0.drew W false false 0 0 (fun W => (True ∧ Za W (zv false (.slice A7 n7 c7)) ((dn y : Nat) : Int) L))) ?_ (fun Hs100 => ?_)
 ·rintro a W ⟨A7, n7, c7, rfl, st0⟩
  have hHeld := st0.1
  have st := hide st0
  clear st0
  refine wpAnyH_ready (rs := [3, 4, 5]) (by kernel_rfl) (by simp) ?_
  refine AllReadyH.cons rfl (fun K hK => ?_) ?_
  ·go_simp
   go_at_call 45
   refine Calls.mono (under_s (s := t) (x := z) (y := v) (L := L) (NV.out.step st.out.1) (NW.out.step st.out.1) h1 (by omega)) ?_
   rintro e wx ⟨A8, n8, c8, rfl, tx, bx⟩
   try dsimp only
   have st2 := St.call (G := fun W => Za W (zv false (.slice A8 n8 c8)) ((dn v : Nat) : Int) L) st.out bx (Firm.and Firm.yes (Firm.za _ _ _)) tx
   have hSt := hide st2
   refine hK.out _ _ st2.1 (fun hHeld => ?_)
   clear hK K st2
   (try go_frame)
   exact Hs200.out _ _ ⟨A7, n7, c7, A8, n8, c8, rfl, hSt.out⟩
  refine AllReadyH.cons rfl (fun K hK => ?_) ?_
  ·go_simp
   have st2 := St.makeA st.out (Firm.and Firm.yes (Firm.za _ _ _))
   refine hK.out _ _ st2.1 (fun hHeld => ?_)
   (try go_frame)
   exact Hs110.out _ _ ⟨A7, n7, c7, W.heap.size, rfl, st2⟩
  refine AllReadyH.cons rfl (fun K hK => ?_) ?_
  ·go_simp
   have st2 := St.makeB st.out (Firm.and Firm.yes (Firm.za _ _ _))
   refine hK.out _ _ st2.1 (fun hHeld => ?_)
   (try go_frame)
   exact Hs101.out _ _ ⟨A7, n7, c7, W.heap.size, rfl, st2⟩
  exact AllReadyH.nil
 refine wpAnyH_with 4 #[true, false, true, false, true, true, false, false] (fun a W => ∃ (gA : Nat) (gB : Nat), a = ⟨#[rv s (.slice A n c) (.slice D m d), rv t (.slice F k f) (.slice H l h), .pointer (some ⟨w.heap.size, 0, none⟩), .pointer (some ⟨w.heap.size + 1, 0, none⟩), .pointer (some ⟨w.heap.size + 1 + 1, 0, none⟩), .pointer (some ⟨w.heap.size + 1 + 1 + 1, 0, none⟩), .pointer (some ⟨w.heap.size + 1 + 1 + 1 + 1, 0, none⟩), .pointer (some ⟨gA, 0, none⟩), .pointer (some ⟨gB, 0, none⟩), rv s (.slice A n c) (.slice D m d), undef, rv t (.slice F k f) (.slice H l h), undef, undef, undef, undef, undef, undef, undef, undef, undef, undef, undef, undef, undef, undef, undef, undef, undef, undef, undef, undef, undef], []⟩ ∧ St W0.drew.heap.size W0.drew W true true gA gB (fun W => True)) ?_ (fun Hs011 => ?_)
 ·rintro a W ⟨gA, gB, rfl, st0⟩
  have hHeld := st0.1
  have st := hide st0
  clear st0
  refine wpAnyH_ready (rs := [1]) (by kernel_rfl) (by simp) ?_
  refine AllReadyH.cons rfl (fun K hK => ?_) ?_
  ·go_simp
   go_at_call 45
   refine Calls.mono (under_s (s := s) (x := x) (y := y) (L := L) (NU.out.step st.out.1) (NT.out.step st.out.1) h1 (by omega)) ?_
   rintro e wx ⟨A7, n7, c7, rfl, tx, bx⟩
   try dsimp only
   have st2 := St.call (G := fun W => Za W (zv false (.slice A7 n7 c7)) ((dn y : Nat) : Int) L) st.out bx Firm.yes tx
   have hSt := hide st2
   refine hK.out _ _ st2.1 (fun hHeld => ?_)
   clear hK K st2
   (try go_frame)
   exact Hs111.out _ _ ⟨A7, n7, c7, gA, gB, rfl, hSt.out⟩
  exact AllReadyH.nil
 refine wpAnyH_with 5 #[true, false, true, false, true, false, false, false] (fun a W => ∃ (gA : Nat), a = ⟨#[rv s (.slice A n c) (.slice D m d), rv t (.slice F k f) (.slice H l h), .pointer (some ⟨w.heap.size, 0, none⟩), .pointer (some ⟨w.heap.size + 1, 0, none⟩), .pointer (some ⟨w.heap.size + 1 + 1, 0, none⟩), .pointer (some ⟨w.heap.size + 1 + 1 + 1, 0, none⟩), .pointer (some ⟨w.heap.size + 1 + 1 + 1 + 1, 0, none⟩), .pointer (some ⟨gA, 0, none⟩), undef, rv s (.slice A n c) (.slice D m d), undef, rv t (.slice F k f) (.slice H l h), undef, undef, undef, undef, undef, undef, undef, undef, undef, undef, undef, undef, undef, undef, undef, undef, undef, undef, undef, undef, undef], []⟩ ∧ St W0.drew.heap.size W0.drew W true false gA 0 (fun W => True)) ?_ (fun Hs010 => ?_)
 ·rintro a W ⟨gA, rfl, st0⟩
  have hHeld := st0.1
  have st := hide st0
  clear st0
  refine wpAnyH_ready (rs := [1, 5]) (by kernel_rfl) (by simp) ?_
  refine AllReadyH.cons rfl (fun K hK => ?_) ?_
  ·go_simp
   go_at_call 45
   refine Calls.mono (under_s (s := s) (x := x) (y := y) (L := L) (NU.out.step st.out.1) (NT.out.step st.out.1) h1 (by omega)) ?_
   rintro e wx ⟨A7, n7, c7, rfl, tx, bx⟩
   try dsimp only
   have st2 := St.call (G := fun W => Za W (zv false (.slice A7 n7 c7)) ((dn y : Nat) : Int) L) st.out bx Firm.yes tx
   have hSt := hide st2
   refine hK.out _ _ st2.1 (fun hHeld => ?_)
   clear hK K st2
   (try go_frame)
   exact Hs110.out _ _ ⟨A7, n7, c7, gA, rfl, hSt.out⟩
  refine AllReadyH.cons rfl (fun K hK => ?_) ?_
  ·go_simp
   have st2 := St.makeB st.out Firm.yes
   refine hK.out _ _ st2.1 (fun hHeld => ?_)
   (try go_frame)
   exact Hs011.out _ _ ⟨gA, W.heap.size, rfl, st2⟩
  exact AllReadyH.nil
 refine wpAnyH_with 5 #[true, false, true, false, false, true, false, false] (fun a W => ∃ (gB : Nat), a = ⟨#[rv s (.slice A n c) (.slice D m d), rv t (.slice F k f) (.slice H l h), .pointer (some ⟨w.heap.size, 0, none⟩), .pointer (some ⟨w.heap.size + 1, 0, none⟩), .pointer (some ⟨w.heap.size + 1 + 1, 0, none⟩), .pointer (some ⟨w.heap.size + 1 + 1 + 1, 0, none⟩), .pointer (some ⟨w.heap.size + 1 + 1 + 1 + 1, 0, none⟩), undef, .pointer (some ⟨gB, 0, none⟩), rv s (.slice A n c) (.slice D m d), undef, rv t (.slice F k f) (.slice H l h), undef, undef, undef, undef, undef, undef, undef, undef, undef, undef, undef, undef, undef, undef, undef, undef, undef, undef, undef, undef, undef], []⟩ ∧ St W0.drew.heap.size W0.drew W false true 0 gB (fun W => True)) ?_ (fun Hs001 => ?_)
 ·rintro a W ⟨gB, rfl, st0⟩
  have hHeld := st0.1
  have st := hide st0
  clear st0
  refine wpAnyH_ready (rs := [1, 4]) (by kernel_rfl) (by simp) ?_
  refine AllReadyH.cons rfl (fun K hK => ?_) ?_
  ·go_simp
   go_at_call 45
   refine Calls.mono (under_s (s := s) (x := x) (y := y) (L := L) (NU.out.step st.out.1) (NT.out.step st.out.1) h1 (by omega)) ?_
   rintro e wx ⟨A7, n7, c7, rfl, tx, bx⟩
   try dsimp only
   have st2 := St.call (G := fun W => Za W (zv false (.slice A7 n7 c7)) ((dn y : Nat) : Int) L) st.out bx Firm.yes tx
   have hSt := hide st2
   refine hK.out _ _ st2.1 (fun hHeld => ?_)
   clear hK K st2
   (try go_frame)
   exact Hs101.out _ _ ⟨A7, n7, c7, gB, rfl, hSt.out⟩
  refine AllReadyH.cons rfl (fun K hK => ?_) ?_
  ·go_simp
   have st2 := St.makeA st.out Firm.yes
   refine hK.out _ _ st2.1 (fun hHeld => ?_)
   (try go_frame)
   exact Hs011.out _ _ ⟨W.heap.size, gB, rfl, st2⟩
  exact AllReadyH.nil
 refine wpAnyH_take (i := 0) (v := ?_) rfl (by kernel_rfl) (by kernel_rfl) (by kernel_rfl) (fun _ _ _ h => h) (Or.inl ⟨?_, ?_⟩) (by assumption) ?_
 rotate_left
 ·rfl
 ·(intro w hSw; have e0 := cell_keep p0 hSw; have e1 := cell_keep p1 hSw; have e2 := cell_keep p2 hSw; go_simp; try with_reducible rfl)
 (try go_frame)
 refine wpAnyH_take (i := 2) (v := ?_) rfl (by kernel_rfl) (by kernel_rfl) (by kernel_rfl) (fun _ _ _ h => h) (Or.inl ⟨?_, ?_⟩) (by assumption) ?_
 rotate_left
 ·rfl
 ·(intro w hSw; have e0 := cell_keep q0 hSw; have e1 := cell_keep q1 hSw; have e2 := cell_keep q2 hSw; go_simp; try with_reducible rfl)
 (try go_frame)
 refine wpAnyH_with 6 #[true, false, true, false, false, false, false, false] (fun a W => a = ⟨#[rv s (.slice A n c) (.slice D m d), rv t (.slice F k f) (.slice H l h), .pointer (some ⟨w.heap.size, 0, none⟩), .pointer (some ⟨w.heap.size + 1, 0, none⟩), .pointer (some ⟨w.heap.size + 1 + 1, 0, none⟩), .pointer (some ⟨w.heap.size + 1 + 1 + 1, 0, none⟩), .pointer (some ⟨w.heap.size + 1 + 1 + 1 + 1, 0, none⟩), undef, undef, rv s (.slice A n c) (.slice D m d), undef, rv t (.slice F k f) (.slice H l h), undef, undef, undef, undef, undef, undef, undef, undef, undef, undef, undef, undef, undef, undef, undef, undef, undef, undef, undef, undef, undef], []⟩ ∧ St W0.drew.heap.size W0.drew W false false 0 0 (fun W => True)) ?_ (fun Hs => Hs.out _ _ ⟨rfl, St.start _⟩)
 rintro a W ⟨rfl, st0⟩
 have hHeld := st0.1
 have st := hide st0
 clear st0
 refine wpAnyH_ready (rs := [1, 4, 5]) (by kernel_rfl) (by simp) ?_
 refine AllReadyH.cons rfl (fun K hK => ?_) ?_
 ·go_simp
  go_at_call 45
  refine Calls.mono (under_s (s := s) (x := x) (y := y) (L := L) (NU.out.step st.out.1) (NT.out.step st.out.1) h1 (by omega)) ?_
  rintro e wx ⟨A7, n7, c7, rfl, tx, bx⟩
  try dsimp only
  have st2 := St.call (G := fun W => Za W (zv false (.slice A7 n7 c7)) ((dn y : Nat) : Int) L) st.out bx Firm.yes tx
  have hSt := hide st2
  refine hK.out _ _ st2.1 (fun hHeld => ?_)
  clear hK K st2
  (try go_frame)
  exact Hs100.out _ _ ⟨A7, n7, c7, rfl, hSt.out⟩
 refine AllReadyH.cons rfl (fun K hK => ?_) ?_
 ·go_simp
  have st2 := St.makeA st.out Firm.yes
  refine hK.out _ _ st2.1 (fun hHeld => ?_)
  (try go_frame)
  exact Hs010.out _ _ ⟨W.heap.size, rfl, st2⟩
 refine AllReadyH.cons rfl (fun K hK => ?_) ?_
 ·go_simp
  have st2 := St.makeB st.out Firm.yes
  refine hK.out _ _ st2.1 (fun hHeld => ?_)
  (try go_frame)
  exact Hs001.out _ _ ⟨W.heap.size, rfl, st2⟩
 exact AllReadyH.nil
theorem mk_add (p1 p2 : Int) (q : Nat) (h : 0 < q) : mkRat p1 q + mkRat p2 q = mkRat (p1 + p2) q := by
 have e : ((q : Nat) : Rat) ≠ 0 := (not_congr Rat.natCast_eq_zero_iff).2 (by omega)
 rw [Rat.mkRat_eq_div, Rat.mkRat_eq_div, Rat.mkRat_eq_div, Rat.intCast_add]
 grind
theorem mk_sub (p1 p2 : Int) (q : Nat) (h : 0 < q) : mkRat p1 q - mkRat p2 q = mkRat (p1 - p2) q := by
 have e : ((q : Nat) : Rat) ≠ 0 := (not_congr Rat.natCast_eq_zero_iff).2 (by omega)
 rw [Rat.mkRat_eq_div, Rat.mkRat_eq_div, Rat.mkRat_eq_div, Rat.intCast_sub]
 grind
theorem box3 (w : World) (s t r : Bool) (A D E : Option Addr) (n c m d k e : Nat) :
  Below w.heap.size w (((w.alloc (zbox s (.slice A n c))).alloc (zbox t (.slice D m d))).alloc (zbox r (.slice E k e))) ∧ Bx (((w.alloc (zbox s (.slice A n c))).alloc (zbox t (.slice D m d))).alloc (zbox r (.slice E k e))) w.heap.size s A n c ∧ Bx (((w.alloc (zbox s (.slice A n c))).alloc (zbox t (.slice D m d))).alloc (zbox r (.slice E k e))) (w.heap.size + 1) t D m d ∧ Bx (((w.alloc (zbox s (.slice A n c))).alloc (zbox t (.slice D m d))).alloc (zbox r (.slice E k e))) (w.heap.size + 1 + 1) r E k e := by
 refine ⟨(((Below.refl _ _).alloc (Nat.le_refl _) _).alloc (by simp) _).alloc (by simp; omega) _, ⟨?_, ?_⟩, ⟨?_, ?_⟩, ⟨?_, ?_⟩⟩ <;> go_simp
theorem f_world2n (w : World) (s t : Bool) (A D F H : Option Addr) (n c m d k f l h : Nat) :
  Below w.heap.size w (((w.alloc (rbox s (.slice A n c) (.slice D m d))).alloc (rbox t (.slice F k f) (.slice H l h))).alloc rblk) ∧ Rb (((w.alloc (rbox s (.slice A n c) (.slice D m d))).alloc (rbox t (.slice F k f) (.slice H l h))).alloc rblk) (w.heap.size + 1 + 1) ∧ Fx (((w.alloc (rbox s (.slice A n c) (.slice D m d))).alloc (rbox t (.slice F k f) (.slice H l h))).alloc rblk) w.heap.size s A n c D m d ∧ Fx (((w.alloc (rbox s (.slice A n c) (.slice D m d))).alloc (rbox t (.slice F k f) (.slice H l h))).alloc rblk) (w.heap.size + 1) t F k f H l h ∧ w.heap.size + 1 + 1 < (((w.alloc (rbox s (.slice A n c) (.slice D m d))).alloc (rbox t (.slice F k f) (.slice H l h))).alloc rblk).heap.size := by
 refine ⟨(((Below.refl _ _).alloc (Nat.le_refl _) _).alloc (by simp) _).alloc (by simp; omega) _, ?_, ⟨?_, ?_, ?_⟩, ⟨?_, ?_, ?_⟩, ?_⟩
 ·have h9 := Rb.new ((w.alloc (rbox s (.slice A n c) (.slice D m d))).alloc (rbox t (.slice F k f) (.slice H l h)))
  simpa using h9
 all_goals go_simp

end Go.Proofs.YtehdkdoaamlkdaaGreat
