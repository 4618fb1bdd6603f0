/-
  Shared texts, one behind the other: RatQ1, RatQ2, RatQ3, RatQ4, Rat11, Rsame0.
-/
import Derived.Test.YtpfeacdhplbblaaGreatBundleF
import Derived.Test.YtpfeacdhplbblaaGreatBundleC
import Derived.Test.YtpfeacdhplbblaaGreatBundleE

namespace Go.Proofs.YtpfeacdhplbblaaGreat
open Go.RowKit Go.Proofs.YtpfeacdhplbblaaGreat.Num
set_option linter.unusedVariables false
set_option maxRecDepth 100000
def Rf (w : World) (v : Value) (r : Rat) (L : Nat) : Prop := ∃ u t, v = rv (decide (r.num < 0)) u t ∧ Ic w u r.num.natAbs L ∧ Ic w t r.den L
theorem Rf.step {w w' : World} {v : Value} {r : Rat} {L : Nat} (h : Rf w v r L) (hb : Below w.heap.size w w') : Rf w' v r L := by
  obtain ⟨u, t, e, h1, h2⟩ := h
  exact ⟨u, t, e, h1.step hb, h2.step hb⟩
theorem rret_put {w0 w : World} {sg : Bool} {A D : Option Addr} {n c m d : Nat} {r : Rat} {L g : Nat} (h : Rc w (rv sg (.slice A n c) (.slice D m d)) r L) (hz : Rb w g) (hg0 : w0.heap.size ≤ g) (hb : Below w0.heap.size w0 w) :
    w.cell? ⟨g, 0, none⟩ = some (.bool false) ∧ w.cell? ⟨g, 1, none⟩ = some (.slice none 0 0) ∧ w.cell? ⟨g, 2, none⟩ = some (.slice none 0 0) ∧
      w.frozen? ⟨g, 0, none⟩ = false ∧ w.frozen? ⟨g, 1, none⟩ = false ∧ w.frozen? ⟨g, 2, none⟩ = false ∧
      ((((w.setCell ⟨g, 0, none⟩ (.bool sg)).setCell ⟨g, 1, none⟩ (.slice A n c)).setCell ⟨g, 2, none⟩ (.slice D m d)).heap[g]? = some (.cells #[.bool sg, .slice A n c, .slice D m d] 36 (0, 0)) ∧
        RRet w0 r L (.returned (rv sg (.slice A n c) (.slice D m d))) (((w.setCell ⟨g, 0, none⟩ (.bool sg)).setCell ⟨g, 1, none⟩ (.slice A n c)).setCell ⟨g, 2, none⟩ (.slice D m d))) :=
  ⟨hz.c0, hz.c1, hz.c2, hz.fz 0, hz.fz 1, hz.fz 2, hz.set _ _ _, _, rfl, (by
    obtain ⟨u, t, e, hc, ht⟩ := h
    injection e with e
    have e3 : sg = decide (r.num < 0) ∧ Value.slice A n c = u ∧ Value.slice D m d = t := by simpa using e
    obtain ⟨rfl, rfl, rfl⟩ := e3
    exact ⟨_, _, rfl, hc.rset hz _ _ _, ht.rset hz _ _ _⟩), ((hb.setCell hg0 _).setCell hg0 _).setCell hg0 _⟩
abbrev fqbox (s : Bool) (u t : Value) : Obj := .cells #[.bool s, u, t] 67
theorem fq_world1 (w : World) (s : Bool) (A D : Option Addr) (n c m d : Nat) :
    Below w.heap.size w ((w.alloc (fqbox s (.slice A n c) (.slice D m d))).alloc rblk).drew ∧ Rb ((w.alloc (fqbox s (.slice A n c) (.slice D m d))).alloc rblk).drew (w.heap.size + 1) ∧ Fx ((w.alloc (fqbox s (.slice A n c) (.slice D m d))).alloc rblk).drew w.heap.size s A n c D m d := by
  refine ⟨below_drewN (((Below.refl _ _).alloc (Nat.le_refl _) _).alloc (by simp) _) 1, ?_, ?_, ?_, ?_⟩
  · have h := Rb.new (w.alloc (fqbox s (.slice A n c) (.slice D m d)))
    have h2 : Rb ((w.alloc (fqbox s (.slice A n c) (.slice D m d))).alloc rblk) (w.heap.size + 1) := by simpa using h
    exact h2
  all_goals go_simp
set_option maxHeartbeats 4000000 in
theorem rfto_any {w : World} {v : Value} {r : Rat} {L : Nat} (h : Rf w v r L) (hL : L ≤ 100000000000) :
    Calls Tryz.prog 26 #[v] w (RRet w r L) := by
  obtain ⟨u, t, rfl, hu, ht⟩ := h
  obtain ⟨A, n, c, rfl⟩ := hu.iw.slice
  obtain ⟨D, m, d, rfl⟩ := ht.iw.slice
  obtain ⟨s, hs0⟩ : ∃ s, decide (r.num < 0) = s := ⟨_, rfl⟩
  have RC := hide (show ∀ W a b, Cw W a r.num.natAbs L → Cw W b r.den L → Rc W (rv s a b) r L from fun W a b h1 h2 => ⟨a, b, by rw [hs0], h1, h2⟩)
  have hq0 : Qi w (zv (decide (r.num < 0)) (.slice A n c)) r.num L := ⟨_, rfl, hu⟩
  generalize r.num = z at *
  generalize r.den = q at *
  rw [hs0] at hq0 ⊢
  have hs := hide hs0
  obtain ⟨b2, hz, p0, p1, p2⟩ := fq_world1 w s A D n c m d
  have nq : Qi ((w.alloc (fqbox s (.slice A n c) (.slice D m d))).alloc rblk).drew (zv s (.slice A n c)) z L := hq0.step b2
  have nt : Iw ((w.alloc (fqbox s (.slice A n c) (.slice D m d))).alloc rblk).drew (.slice D m d) q L := (ht.step b2).iw
  have B := hide b2
  have Z := hide hz
  clear hu ht b2 hz hq0 hs0
  go_enter Tryz.func26, Tryz.ntmps26
  go_wp2_with fail
  generalize hW0 : ((w.alloc (fqbox s (.slice A n c) (.slice D m d))).alloc rblk) = W0 at *
  go_region_held3 (fun W => W.cell? ⟨w.heap.size, 0, none⟩ = some (.bool s) ∧ W.cell? ⟨w.heap.size, 1, none⟩ = some (.slice A n c) ∧ W.cell? ⟨w.heap.size, 2, none⟩ = some (.slice D m d))
    (first | with_reducible exact ⟨p0, p1, p2⟩ | (refine ⟨?_, ?_, ?_⟩ <;> (repeat (first | (with_reducible assumption) | (with_reducible refine cell_keep ?_ (by with_reducible assumption)) | (with_reducible refine cell_rset ?_ (by simp <;> omega) _ _ _)))))
    (first
        | (go_at_call 43; refine Calls.mono (qto_any (z := z) (L := L) ?_ hL) ?_; (focus ((repeat (first | (with_reducible assumption) | (with_reducible refine Qi.step ?_ (by with_reducible assumption)))); done)); rintro e wx ⟨vx, rfl, ⟨u9, rfl, cu⟩, bx⟩; obtain ⟨A9, c9, rfl, -⟩ := id cu; rw [hs.out])
        | (go_at_call 44; refine Calls.mono (to_l (x := q) (L := L) ?_ hL) ?_; (focus ((repeat (first | (with_reducible assumption) | (with_reducible refine Iw.step ?_ (by with_reducible assumption)))); done)); rintro e wx ⟨r9, rfl, -, cr, bx⟩; obtain ⟨D9, d9, rfl, -⟩ := id cr; have st : Below W0.drew.heap.size W0.drew wx := (by (repeat (first | (with_reducible assumption) | (with_reducible refine Below.step1 ?_ (by with_reducible assumption))))); obtain ⟨k0, k1, k2, f0, f1, f2, fin⟩ := rret_put (w0 := w) (RC.out wx _ _ (cu.step bx) cr) (Z.out.step st) (by omega) (Below.step B.out B.out.size st)))
  all_goals
    have F9 := hide fin
    clear fin
    go_wp2_with fail
    exact bodyPost_ret (rret rfl _ _ _ _ rfl rfl F9.out.1) rfl F9.out.2
set_option maxHeartbeats 2000000 in
theorem rsame_c {w : World} {u v : Value} {r : Rat} {L M : Nat} (hu : Rc w u r L) (hv : Rc w v r M) :
    Calls Tryz.prog 20 #[u, v] w fun e w' => e = .returned (.bool true) ∧ Below w.heap.size w w' := by
  obtain ⟨u1, u2, rfl, a1, a2⟩ := hu
  obtain ⟨v1, v2, rfl, c1, c2⟩ := hv
  obtain ⟨A, n, c, rfl⟩ := a1.nw.slice
  obtain ⟨D, m, d, rfl⟩ := a2.nw.slice
  obtain ⟨F, k, f, rfl⟩ := c1.nw.slice
  obtain ⟨H, l, h, rfl⟩ := c2.nw.slice
  have za : Zi w (zv (decide (r.num < 0)) (.slice A n c)) r.num L := ⟨_, rfl, a1⟩
  have zb : Zi w (zv (decide (r.num < 0)) (.slice F k f)) r.num M := ⟨_, rfl, c1⟩
  generalize decide (r.num < 0) = s at *
  obtain ⟨b2, ⟨p0, p1, p2⟩, q0, q1, q2⟩ := f_world0 w s s A D F H n c m d k f l h
  have b3 : Below w.heap.size w ((w.alloc (rbox s (.slice A n c) (.slice D m d))).alloc (rbox s (.slice F k f) (.slice H l h))) := ((Below.refl _ _).alloc (Nat.le_refl _) _).alloc (by simp) _
  have C1 := hide (zsame_i (za.step b3) (zb.step b3))
  have N1 := hide (a2.step b3)
  have N2 := hide (c2.step b3)
  have B := hide b3
  have C : Hid (Fx ((w.alloc (rbox s (.slice A n c) (.slice D m d))).alloc (rbox s (.slice F k f) (.slice H l h))) w.heap.size s A n c D m d ∧ Fx ((w.alloc (rbox s (.slice A n c) (.slice D m d))).alloc (rbox s (.slice F k f) (.slice H l h))) (w.heap.size + 1) s F k f H l h) := hide ⟨⟨p0, p1, p2⟩, q0, q1, q2⟩
  clear za zb b2 b3 a1 a2 c1 c2 p0 p1 p2 q0 q1 q2
  go_enter Tryz.func20, Tryz.ntmps20
  go_wp2_with fail
  refine C1.out.mono ?_
  rintro e w1 ⟨rfl, b1⟩
  obtain ⟨p0, p1, p2⟩ := C.out.1.step b1
  obtain ⟨q0, q1, q2⟩ := C.out.2.step b1
  have B1 := hide (Below.step B.out B.out.size b1)
  have C2 := hide (same_c (N1.out.step b1) (N2.out.step b1) rfl)
  clear C1 N1 N2 B C b1
  go_wp2_with fail
  refine C2.out.mono ?_
  rintro e w2 ⟨rfl, b2⟩
  have B2 := hide (Below.step B1.out B1.out.size b2)
  clear C2 B1 b2 p0 p1 p2 q0 q1 q2
  go_wp2_with fail
  go_ret
  exact ⟨rfl, B2.out⟩
abbrev fqblk : Obj := .cells #[.bool false, .slice none 0 0, .slice none 0 0] 67
def RfRet (w : World) (r : Rat) (L : Nat) (e : Ending) (w' : World) : Prop := ∃ v, e = .returned v ∧ Rf w' v r L ∧ Below w.heap.size w w'
def Fb (w : World) (g : Nat) : Prop := w.heap[g]? = some fqblk
theorem Fb.new (w : World) : Fb (w.alloc fqblk) w.heap.size := heap_alloc_new _ _
theorem Fb.lt {w : World} {g : Nat} (h : Fb w g) : g < w.heap.size := by have h1 := h; unfold Fb at h1; exact (Array.getElem?_eq_some_iff.1 h1).1
theorem Fb.step {w w' : World} {g : Nat} (h : Fb w g) (hb : Below w.heap.size w w') : Fb w' g := (hb.block g h.lt).trans h
theorem Fb.c0 {w : World} {g : Nat} (h : Fb w g) : w.cell? ⟨g, 0, none⟩ = some (.bool false) := cell_of_row w g 0 _ _ _ h
theorem Fb.c1 {w : World} {g : Nat} (h : Fb w g) : w.cell? ⟨g, 1, none⟩ = some (.slice none 0 0) := cell_of_row w g 1 _ _ _ h
theorem Fb.c2 {w : World} {g : Nat} (h : Fb w g) : w.cell? ⟨g, 2, none⟩ = some (.slice none 0 0) := cell_of_row w g 2 _ _ _ h
theorem Fb.fz {w : World} {g : Nat} (h : Fb w g) (j : Nat) : w.frozen? ⟨g, j, none⟩ = false := frozen_of_row w g j _ _ h
theorem Fb.set {w : World} {g : Nat} (h : Fb w g) (a b c : Value) : (((w.setCell ⟨g, 0, none⟩ a).setCell ⟨g, 1, none⟩ b).setCell ⟨g, 2, none⟩ c).heap[g]? = some (.cells #[a, b, c] 67 (0, 0)) :=
  heap_setCell_same _ g 2 _ _ c (heap_setCell_same _ g 1 _ _ b (heap_setCell_same w g 0 _ _ a h))
theorem Ic.rset {w : World} {v : Value} {x L g : Nat} {T : TypeId} (h : Ic w v x L) (hz : w.heap[g]? = some (.cells #[.bool false, .slice none 0 0, .slice none 0 0] T (0, 0))) (a b c : Value) : Ic (((w.setCell ⟨g, 0, none⟩ a).setCell ⟨g, 1, none⟩ b).setCell ⟨g, 2, none⟩ c) v x L := by
  obtain ⟨A, k, e, h1, h2⟩ := h
  exact ⟨A, k, e, by rw [size_rset]; exact h1.rset hz a b c, h2⟩
theorem rfret {fn : Func} {p : Tmp} (h : fn.results = #[.cell p 67]) (tmps : Array Value) (w : World) (g : Nat) (cs : Array Value) (hs : cs.size = 3)
    (hp : tmps.getD p undef = .pointer (some ⟨g, 0, none⟩)) (hg : w.heap[g]? = some (.cells cs 67 (0, 0))) : (results fn tmps).run Tryz.prog w = .ok (.agg cs) w :=
  results_cell_row h tmps w g 67 cs (0, 0) _ hp hg Tryz.underlying67 rfl (by rw [hs]; kernel_rfl)
theorem rf_put {w0 w : World} {sg : Bool} {u t : Value} {r : Rat} {L g : Nat} (h : Rf w (rv sg u t) r L) (hz : Fb w g) (hg0 : w0.heap.size ≤ g) (hb : Below w0.heap.size w0 w) :
    w.cell? ⟨g, 0, none⟩ = some (.bool false) ∧ w.cell? ⟨g, 1, none⟩ = some (.slice none 0 0) ∧ w.cell? ⟨g, 2, none⟩ = some (.slice none 0 0) ∧
      w.frozen? ⟨g, 0, none⟩ = false ∧ w.frozen? ⟨g, 1, none⟩ = false ∧ w.frozen? ⟨g, 2, none⟩ = false ∧
      ((((w.setCell ⟨g, 0, none⟩ (.bool sg)).setCell ⟨g, 1, none⟩ u).setCell ⟨g, 2, none⟩ t).heap[g]? = some (.cells #[.bool sg, u, t] 67 (0, 0)) ∧
        RfRet w0 r L (.returned (rv sg u t)) (((w.setCell ⟨g, 0, none⟩ (.bool sg)).setCell ⟨g, 1, none⟩ u).setCell ⟨g, 2, none⟩ t)) :=
  ⟨hz.c0, hz.c1, hz.c2, hz.fz 0, hz.fz 1, hz.fz 2, hz.set _ _ _, _, rfl, (by
    obtain ⟨u', t', e, hc, ht⟩ := h
    injection e with e
    have e3 : sg = decide (r.num < 0) ∧ u = u' ∧ t = t' := by simpa using e
    obtain ⟨rfl, rfl, rfl⟩ := e3
    exact ⟨_, _, rfl, hc.rset hz _ _ _, ht.rset hz _ _ _⟩), ((hb.setCell hg0 _).setCell hg0 _).setCell hg0 _⟩
theorem rf_mk {w : World} {s : Bool} {u t : Value} {x y L : Nat} (hx : x ≠ 0) (hy : 0 < y) (hu : Ic w u (x / Nat.gcd x y) L) (ht : Ic w t (y / Nat.gcd x y) L) : Rf w (rv s u t) (mkRat (zi s x) y) L := by
  obtain ⟨hn, hd⟩ := mk_num (s := s) (x := x) hy
  have hp : 0 < x / Nat.gcd x y := Nat.div_pos (Nat.gcd_le_left _ (by omega)) (Nat.gcd_pos_of_pos_right _ hy)
  refine ⟨u, t, ?_, by rw [hn, zi_abs]; exact hu, by rw [hd]; exact ht⟩
  rw [hn, ← zi_neg]
  have : decide (x / Nat.gcd x y ≠ 0) = true := decide_eq_true (by omega)
  rw [this, Bool.and_true]
set_option maxHeartbeats 4000000 in
theorem lowest_some {w : World} {s : Bool} {u t : Value} {x y L : Nat} (hu : Ic w u x L) (hv : Ic w t y L) (hx : x ≠ 0) (hy : 0 < y) (hL : L ≤ 100000000000) :
    Calls Tryz.prog 46 #[zv s u, t] w (RfRet w (mkRat (zi s x) y) L) := by
  obtain ⟨A, c, rfl, -⟩ := id hu
  obtain ⟨D, m, d, rfl⟩ := hv.iw.slice
  obtain ⟨k, hk⟩ : ∃ k, (cn 10000 x).length = k := ⟨_, rfl⟩
  rw [hk] at hu ⊢
  have b1 : Below w.heap.size w (w.alloc (qbox s (.slice A k c))) := (Below.refl _ _).alloc (Nat.le_refl _) _
  have b2 : Below w.heap.size w ((w.alloc (qbox s (.slice A k c))).alloc fqblk) := b1.alloc (by simp) _
  have hz : Fb ((w.alloc (qbox s (.slice A k c))).alloc fqblk) (w.heap.size + 1) := by have h := Fb.new (w.alloc (qbox s (.slice A k c))); simpa using h
  have p0 : ((w.alloc (qbox s (.slice A k c))).alloc fqblk).cell? ⟨w.heap.size, 0, none⟩ = some (.bool s) := by go_simp
  have p1 : ((w.alloc (qbox s (.slice A k c))).alloc fqblk).cell? ⟨w.heap.size, 1, none⟩ = some (.slice A k c) := by go_simp
  have hk0 : ((k : Int) == 0) = false := by
    rw [beq_eq_false_iff_ne]
    intro h0
    apply hx
    have h9 : cn 10000 x = [] := List.eq_nil_of_length_eq_zero (by omega)
    have h8 := vl_cn (B := 10000) (by omega) x
    rw [h9] at h8
    rw [← h8]; rfl
  have RM := hide (fun (W : World) (a b : Value) (h1 : Ic W a (x / Nat.gcd x y) L) (h2 : Ic W b (y / Nat.gcd x y) L) => rf_mk (s := s) hx hy h1 h2)
  have GP := hide (Nat.gcd_pos_of_pos_right x hy)
  generalize mkRat (zi s x) y = r at *
  have U := hide (hu.step b2)
  have V := hide (hv.step b2)
  have C := hide (And.intro p0 p1)
  have GC := hide (igcd U.out.iw V.out.iw hL)
  have HB := hide b2
  have HZ := hide hz
  generalize Nat.gcd x y = G at *
  clear hu hv b1 b2 hz hk
  go_enter Tryz.func46, Tryz.ntmps46
  go_wp2_with fail
  refine GC.out.mono ?_
  rintro e w1 ⟨g, rfl, -, g1, b1⟩
  have C1 := hide (And.intro (cell_keep C.out.1 b1) (cell_keep C.out.2 b1))
  obtain ⟨p0, p1⟩ := C1.out
  have U1 := hide (U.out.step b1)
  have V1 := hide (V.out.step b1)
  have DC := hide (idivmod U1.out g1.iw GP.out hL hL)
  have G1 := hide g1
  have B1 := hide (Below.step HB.out HB.out.size b1)
  have Z1 := hide (HZ.out.step b1)
  clear GC U V C HB HZ b1 g1 hk0
  go_wp2_with fail
  refine DC.out.mono ?_
  rintro e w2 ⟨q1, r1, rfl, -, -, q2, -, b1⟩
  have C2 := hide (And.intro (cell_keep C1.out.1 b1) (cell_keep C1.out.2 b1))
  have V2 := hide (V1.out.step b1)
  have G2 := hide (G1.out.step b1)
  have DC := hide (idivmod V2.out G2.out.iw GP.out hL hL)
  have Q2 := hide q2
  have B2 := hide (Below.step B1.out B1.out.size b1)
  have Z2 := hide (Z1.out.step b1)
  clear p0 p1 C1 U1 V1 G1 B1 Z1 q2 b1
  go_wp2_with fail
  refine DC.out.mono ?_
  rintro e w3 ⟨q4, r4, rfl, -, -, q3, -, b1⟩
  have p0 := cell_keep C2.out.1 b1
  obtain ⟨A9, n9, c9, rfl⟩ := Q2.out.iw.slice
  obtain ⟨D9, m9, d9, rfl⟩ := q3.iw.slice
  obtain ⟨k0, k1, k2, f0, f1, f2, fin⟩ := rf_put (w0 := w) (RM.out w3 _ _ (Q2.out.step b1) q3) (Z2.out.step b1) (by omega) (Below.step B2.out B2.out.size b1)
  have F := hide fin
  clear fin C2 DC V2 G2 B2 Z2 Q2 q3 b1 RM GP
  go_wp2_with fail
  exact bodyPost_ret (rfret rfl _ _ _ #[.bool s, .slice A9 n9 c9, .slice D9 m9 d9] rfl rfl F.out.1) rfl F.out.2
theorem ic_none (w : World) (L : Nat) : Ic w (.slice none 0 0) 0 L := ⟨none, 0, by rw [cn_zero]; rfl, by rw [cn_zero]; exact ⟨rfl, fun h => absurd h (Nat.lt_irrefl 0)⟩, by rw [cn_zero]; exact Nat.zero_le L⟩
theorem cn_one : cn 10000 1 = [1] := cn_lit (by omega) (dg_lit (by decide)) (by rfl) (by decide)
theorem ic_one (w : World) {L : Nat} (h1 : 1 ≤ L) : Ic (w.alloc (.cells #[.int .i64 1] 3)) (.slice (some ⟨w.heap.size, 0, none⟩) 1 1) 1 L :=
  ⟨_, 1, by rw [cn_one]; rfl, by rw [cn_one]; exact Rd.lit1 .i64 w _ 1, by rw [cn_one]; exact h1⟩
set_option maxHeartbeats 4000000 in
theorem lowest_zero {w : World} {s : Bool} {u : Value} {D : Option Addr} {m d : Nat} {L : Nat} (hu : Ic w u 0 L) (h1 : 1 ≤ L) :
    Calls Tryz.prog 46 #[zv s u, .slice D m d] w (RfRet w 0 L) := by
  obtain ⟨A, c, rfl, -⟩ := id hu
  rw [cn_zero, List.length_nil]
  have b1 : Below w.heap.size w (w.alloc (qbox s (.slice A 0 c))) := (Below.refl _ _).alloc (Nat.le_refl _) _
  have b2 : Below w.heap.size w ((w.alloc (qbox s (.slice A 0 c))).alloc (fqbox false (.slice none 0 0) (.slice (some ⟨w.heap.size + 1 + 1, 0, none⟩) 1 1))) := b1.alloc (by simp) _
  have b3 : Below w.heap.size w (((w.alloc (qbox s (.slice A 0 c))).alloc (fqbox false (.slice none 0 0) (.slice (some ⟨w.heap.size + 1 + 1, 0, none⟩) 1 1))).alloc (.cells #[.int .i64 1] 3)) := b2.alloc (by simp; omega) _
  have hh : ((w.alloc (qbox s (.slice A 0 c))).alloc (fqbox false (.slice none 0 0) (.slice (some ⟨w.heap.size + 1 + 1, 0, none⟩) 1 1))).heap[w.heap.size + 1]? = some (fqbox false (.slice none 0 0) (.slice (some ⟨w.heap.size + 1 + 1, 0, none⟩) 1 1)) := by
    have h := heap_alloc_new (w.alloc (qbox s (.slice A 0 c))) (fqbox false (.slice none 0 0) (.slice (some ⟨w.heap.size + 1 + 1, 0, none⟩) 1 1))
    simpa using h
  have h3 := (((Below.refl ((w.alloc (qbox s (.slice A 0 c))).alloc (fqbox false (.slice none 0 0) (.slice (some ⟨w.heap.size + 1 + 1, 0, none⟩) 1 1))).heap.size _).alloc (Nat.le_refl _) (.cells #[.int .i64 1] 3)).block (w.heap.size + 1) (by simp)).trans hh
  have p1 : ((w.alloc (qbox s (.slice A 0 c))).alloc fqblk).cell? ⟨w.heap.size, 1, none⟩ = some (.slice A 0 c) := by go_simp
  have hr : Rf (((w.alloc (qbox s (.slice A 0 c))).alloc (fqbox false (.slice none 0 0) (.slice (some ⟨w.heap.size + 1 + 1, 0, none⟩) 1 1))).alloc (.cells #[.int .i64 1] 3)) (rv false (.slice none 0 0) (.slice (some ⟨w.heap.size + 1 + 1, 0, none⟩) 1 1)) 0 L := by
    refine ⟨_, _, rfl, ic_none _ L, ?_⟩
    have h := ic_one ((w.alloc (qbox s (.slice A 0 c))).alloc (fqbox false (.slice none 0 0) (.slice (some ⟨w.heap.size + 1 + 1, 0, none⟩) 1 1))) h1
    simpa using h
  have F := hide (And.intro h3 (show RfRet w 0 L (.returned (rv false (.slice none 0 0) (.slice (some ⟨w.heap.size + 1 + 1, 0, none⟩) 1 1))) _ from ⟨_, rfl, hr, b3⟩))
  clear hu b1 b2 b3 hh h3 hr
  go_enter Tryz.func46, Tryz.ntmps46
  go_wp2_with fail
  exact bodyPost_ret (rfret rfl _ _ _ #[.bool false, .slice none 0 0, .slice (some ⟨w.heap.size + 1 + 1, 0, none⟩) 1 1] rfl rfl F.out.1) rfl F.out.2
theorem lowest_any {w : World} {s : Bool} {u t : Value} {x y L : Nat} (hu : Ic w u x L) (hv : Ic w t y L) (hy : 0 < y) (h1 : 1 ≤ L) (hL : L ≤ 100000000000) :
    Calls Tryz.prog 46 #[zv s u, t] w (RfRet w (mkRat (zi s x) y) L) := by
  by_cases hx : x = 0
  · subst hx
    obtain ⟨D, m, d, rfl⟩ := hv.iw.slice
    have e : zi s 0 = 0 := by unfold zi; cases s <;> rfl
    rw [e, Rat.zero_mkRat]
    exact lowest_zero hu h1
  · exact lowest_some hu hv hx hy hL
theorem Rf.parts {w : World} {v : Value} {r : Rat} {L : Nat} (h : Rf w v r L) : ∃ sg A n c D m d, v = rv sg (.slice A n c) (.slice D m d) ∧ Rf w (rv sg (.slice A n c) (.slice D m d)) r L := by
  obtain ⟨u, t, rfl, hu, ht⟩ := h
  obtain ⟨A, n, c, rfl⟩ := hu.iw.slice
  obtain ⟨D, m, d, rfl⟩ := ht.iw.slice
  exact ⟨_, A, n, c, D, m, d, rfl, _, _, rfl, hu, ht⟩
theorem iof {w : World} {u : Value} {x L : Nat} (hu : Nw w u x L) (hL : L ≤ 1000000000) : Calls Tryz.prog 45 #[u] w (INew w x (5 * L)) := by
  obtain ⟨A, n, c, xs, rfl, hx, dx, h1, h2, hv, h3⟩ := hu
  subst hv
  refine (rof_any A n c xs w hx dx (by omega)).mono fun e w' h => INew.of h ?_
  have h := len_words hx.1 dx (Nat.zero_le n)
  rw [List.drop_zero, Nat.sub_zero] at h
  exact Nat.lt_of_lt_of_le h (Nat.pow_le_pow_right (by omega) (by omega))
set_option maxHeartbeats 4000000 in
theorem rof_r {w : World} {v : Value} {r : Rat} {L : Nat} (h : Ra w v r L) (h1 : 1 ≤ L) (hL : L ≤ 1000000000) :
    Calls Tryz.prog 27 #[v] w (RfRet w r (5 * L)) := by
  obtain ⟨s, A, n, c, D, m, d, x, y, rfl, hu, ht, rfl⟩ := h.parts
  obtain ⟨b1, f1⟩ := fbox1 w s A n c D m d
  have b2 : Below w.heap.size w ((w.alloc (rbox s (.slice A n c) (.slice D m d))).alloc fqblk) := b1.alloc (by simp) _
  have b3 : Below (w.alloc (rbox s (.slice A n c) (.slice D m d))).heap.size (w.alloc (rbox s (.slice A n c) (.slice D m d))) ((w.alloc (rbox s (.slice A n c) (.slice D m d))).alloc fqblk) := (Below.refl _ _).alloc (Nat.le_refl _) _
  have hz : Fb ((w.alloc (rbox s (.slice A n c) (.slice D m d))).alloc fqblk) (w.heap.size + 1) := by have h := Fb.new (w.alloc (rbox s (.slice A n c) (.slice D m d))); simpa using h
  have FX := hide (f1.step b3)
  have IC := hide (iof (ht.step b2) hL)
  have ZA := hide (Za.of (s := s) (hu.step b2))
  have HB := hide b2
  have HZ := hide hz
  obtain ⟨p0, p1, p2⟩ := FX.out
  clear hu ht b1 b2 b3 hz f1 h
  go_enter Tryz.func27, Tryz.ntmps27
  go_wp2_with fail
  refine IC.out.mono ?_
  rintro e w1 ⟨r9, rfl, -, i9, b1⟩
  obtain ⟨A9, c9, rfl, -⟩ := id i9
  obtain ⟨k, hk⟩ : ∃ k, (cn 10000 y).length = k := ⟨_, rfl⟩
  rw [hk] at i9 ⊢
  have B1 := hide (Below.step HB.out HB.out.size b1)
  have Z1 := hide (HZ.out.step b1)
  have FX1 := hide (FX.out.step b1)
  have ZA1 := hide (ZA.out.step b1)
  have I1 := hide i9
  clear IC FX ZA HB HZ p0 p1 p2 b1 i9
  obtain ⟨p0, p1, p2⟩ := FX1.out
  by_cases hy : y = 0
  · subst hy
    obtain rfl : k = 0 := by rw [← hk, cn_zero]; rfl
    have b4 : Below w1.heap.size w1 (w1.alloc (.cells #[.int .i64 1] 3)) := (Below.refl _ _).alloc (Nat.le_refl _) _
    have QC := hide (qof_any (ZA1.out.step b4) hL)
    have D2 := hide (ic_one w1 (show 1 ≤ 5 * L by omega))
    have B2 := hide (Below.step B1.out B1.out.size b4)
    have Z2 := hide (Z1.out.step b4)
    have HQ := hide (show mkRat (zi s x) 1 = mkRat (zi s x) (dn 0) from rfl)
    have r0 := cell_keep p0 b4
    have r1 := cell_keep p1 b4
    clear B1 Z1 FX1 ZA1 I1 hk b4
    go_wp2_with fail
    refine QC.out.mono ?_
    rintro e w3 ⟨v3, rfl, ⟨u3, rfl, q3⟩, b3⟩
    obtain ⟨A3, n3, c3, rfl⟩ := q3.iw.slice
    have LC := hide (lowest_any (s := decide (zi s x < 0)) q3 (D2.out.step b3) (by omega) (show 1 ≤ 5 * L by omega) (by omega))
    rw [zi_num, HQ.out] at LC
    have B3 := hide (Below.step B2.out B2.out.size b3)
    have Z3 := hide (Z2.out.step b3)
    clear q3 b3 QC D2 B2 Z2
    generalize decide (zi s x < 0) = s3 at *
    go_wp2_with fail
    refine LC.out.mono ?_
    rintro e w4 ⟨v, rfl, c1, b1⟩
    obtain ⟨sg, A1, n1, c1', D1, m1, d1, rfl, c2⟩ := c1.parts
    obtain ⟨k0, k1, k2, f0, f1, f2, fin⟩ := rf_put (w0 := w) c2 (Z3.out.step b1) (by omega) (Below.step B3.out B3.out.size b1)
    have F := hide fin
    clear fin LC b1 c1 c2 Z3 B3
    go_wp2_with fail
    exact bodyPost_ret (rfret rfl _ _ _ #[.bool sg, .slice A1 n1 c1', .slice D1 m1 d1] rfl rfl F.out.1) rfl F.out.2
  · have hk0 : ((k : Int) == 0) = false := by
      rw [beq_eq_false_iff_ne]
      intro h0
      apply hy
      have h9 : cn 10000 y = [] := List.eq_nil_of_length_eq_zero (by omega)
      have h8 := vl_cn (B := 10000) (by omega) y
      rw [h9] at h8
      rw [← h8]; rfl
    have QC := hide (qof_any ZA1.out hL)
    have D2 := I1
    have B2 := B1
    have Z2 := Z1
    have HQ := hide (show mkRat (zi s x) y = mkRat (zi s x) (dn y) by rw [dn_of hy])
    clear B1 Z1 FX1 ZA1 I1 hk
    go_wp2_with fail
    refine QC.out.mono ?_
    rintro e w3 ⟨v3, rfl, ⟨u3, rfl, q3⟩, b3⟩
    obtain ⟨A3, n3, c3, rfl⟩ := q3.iw.slice
    have LC := hide (lowest_any (s := decide (zi s x < 0)) q3 (D2.out.step b3) (by omega) (show 1 ≤ 5 * L by omega) (by omega))
    rw [zi_num, HQ.out] at LC
    have B3 := hide (Below.step B2.out B2.out.size b3)
    have Z3 := hide (Z2.out.step b3)
    clear q3 b3 QC D2 B2 Z2
    generalize decide (zi s x < 0) = s3 at *
    go_wp2_with fail
    refine LC.out.mono ?_
    rintro e w4 ⟨v, rfl, c1, b1⟩
    obtain ⟨sg, A1, n1, c1', D1, m1, d1, rfl, c2⟩ := c1.parts
    obtain ⟨k0, k1, k2, f0, f1, f2, fin⟩ := rf_put (w0 := w) c2 (Z3.out.step b1) (by omega) (Below.step B3.out B3.out.size b1)
    have F := hide fin
    clear fin LC b1 c1 c2 Z3 B3
    go_wp2_with fail
    exact bodyPost_ret (rfret rfl _ _ _ #[.bool sg, .slice A1 n1 c1', .slice D1 m1 d1] rfl rfl F.out.1) rfl F.out.2
set_option linter.unusedSimpArgs false
theorem Rc.parts {w : World} {v : Value} {r : Rat} {L : Nat} (h : Rc w v r L) : ∃ s A n c D m d, v = rv s (.slice A n c) (.slice D m d) ∧ Rc w (rv s (.slice A n c) (.slice D m d)) r L := by
  obtain ⟨u, t, rfl, h1, h2⟩ := h
  obtain ⟨A, n, c, rfl⟩ := h1.nw.slice
  obtain ⟨D, m, d, rfl⟩ := h2.nw.slice
  exact ⟨_, A, n, c, D, m, d, rfl, _, _, rfl, h1, h2⟩
theorem lw_nil (w : World) : Lw w (.slice none 0 0) [] 0 := ⟨none, 0, 0, rfl, Rd.nil, Dg.nil, Nat.le_refl _, by simp [maxLen], Nat.le_refl _⟩
set_option maxHeartbeats 2000000 in
theorem rsame_zero (w : World) :
    Calls Tryz.prog 20 #[rv false (.slice none 0 0) (.slice none 0 0), rv false (.slice none 0 0) (.slice none 0 0)] w fun e w' => e = .returned (.bool true) ∧ Below w.heap.size w w' := by
  obtain ⟨b2, ⟨p0, p1, p2⟩, q0, q1, q2⟩ := f_world0 w false false none none none none 0 0 0 0 0 0 0 0
  have b3 : Below w.heap.size w ((w.alloc (rbox false (.slice none 0 0) (.slice none 0 0))).alloc (rbox false (.slice none 0 0) (.slice none 0 0))) := ((Below.refl _ _).alloc (Nat.le_refl _) _).alloc (by simp) _
  have C1 := hide (zsame_l (s := false) (lw_nil ((w.alloc (rbox false (.slice none 0 0) (.slice none 0 0))).alloc (rbox false (.slice none 0 0) (.slice none 0 0)))) (lw_nil _))
  have B := hide b3
  have C : Hid (Fx ((w.alloc (rbox false (.slice none 0 0) (.slice none 0 0))).alloc (rbox false (.slice none 0 0) (.slice none 0 0))) w.heap.size false none 0 0 none 0 0 ∧ Fx ((w.alloc (rbox false (.slice none 0 0) (.slice none 0 0))).alloc (rbox false (.slice none 0 0) (.slice none 0 0))) (w.heap.size + 1) false none 0 0 none 0 0) := hide ⟨⟨p0, p1, p2⟩, q0, q1, q2⟩
  clear b2 b3 p0 p1 p2 q0 q1 q2
  go_enter Tryz.func20, Tryz.ntmps20
  go_wp2_with fail
  refine C1.out.mono ?_
  rintro e w1 ⟨rfl, b1⟩
  obtain ⟨p0, p1, p2⟩ := C.out.1.step b1
  obtain ⟨q0, q1, q2⟩ := C.out.2.step b1
  have B1 := hide (Below.step B.out B.out.size b1)
  have C2 := hide (same_c (L := 0) (M := 0) (x := 0) (y := 0) (w := w1) ⟨none, 0, (by rw [cn_zero]), by rw [cn_zero]; exact Rd.nil, by rw [cn_zero]; exact Nat.zero_le _, by simp [maxLen], by rw [cn_zero]; exact Nat.zero_le _⟩ ⟨none, 0, (by rw [cn_zero]), by rw [cn_zero]; exact Rd.nil, by rw [cn_zero]; exact Nat.zero_le _, by simp [maxLen], by rw [cn_zero]; exact Nat.zero_le _⟩ rfl)
  clear C1 B C b1
  go_wp2_with fail
  refine C2.out.mono ?_
  rintro e w2 ⟨rfl, b2⟩
  have B2 := hide (Below.step B1.out B1.out.size b2)
  clear C2 B1 b2 p0 p1 p2 q0 q1 q2
  go_wp2_with fail
  go_ret
  exact ⟨rfl, B2.out⟩
end Go.Proofs.YtpfeacdhplbblaaGreat
