
/-
 Branchers: mean, product, Score.
-/
import Derived.Test.YtehdkdoaamlkdaaGreatBr1
import Derived.BigRegion
import Derived.Test.YtehdkdoaamlkdaaGreatKdrw


namespace Go.Proofs.YtehdkdoaamlkdaaGreat
open Go.RowKit Go.Proofs.YtehdkdoaamlkdaaGreat.Num Go.Maps
set_option linter.unusedVariables false
set_option linter.unusedSimpArgs false
set_option maxRecDepth 100000
def Looks (m : Nat) (es : Array MapEntry) (cl : Nat) (col : Int) (up : Bool) (x : Rx) (k : Int) : Prop :=
 ∀ W : World, W.heap[m]? = some (.map es cl) → (Instr.lookup 55 (.map (some m)) (sdv col up) false).run Tryz.prog W = .ok (.agg #[.bool x.s, sv x.u, sv x.t, .int .i64 k]) W
def mnv (q : Rat) (k : Int) : Rat := if k = 0 then 1 else q / (k : Rat)
abbrev gzero : Obj := .cells #[.bool false, .slice none 0 0, .slice none 0 0, .int .i64 0] 75
abbrev gbox (x : Rx) (k : Int) : Obj := .cells #[.bool x.s, sv x.u, sv x.t, .int .i64 k] 75
def Gq (W : World) (h : Nat) (x : Rx) (k : Int) : Prop := W.heap[h]? = some (gbox x k)
theorem Gq.step {W W' : World} {h : Nat} {x : Rx} {k : Int} (H : Gq W h x k) (hb : Below W.heap.size W W') : Gq W' h x k := (hb.block h (by unfold Gq at H; exact (Array.getElem?_eq_some_iff.1 H).1)).trans H
theorem Gq.all {W : World} {h : Nat} {x : Rx} {k : Int} (H : Gq W h x k) : W.cell? ⟨h, 0, none⟩ = some (.bool x.s) ∧ W.cell? ⟨h, 1, none⟩ = some (sv x.u) ∧ W.cell? ⟨h, 2, none⟩ = some (sv x.t) ∧ W.cell? ⟨h, 3, none⟩ = some (.int .i64 k) :=
 ⟨cell_of_row W h 0 _ _ _ H, cell_of_row W h 1 _ _ _ H, cell_of_row W h 2 _ _ _ H, cell_of_row W h 3 _ _ _ H⟩
def Nst (W0 : World) (K : Int) (q : Rat) (N : Nat) (a c : Option Rx) (g : Option Nat) (V : World) : Prop :=
 Below W0.heap.size W0 V ∧ (∀ x, a = some x → Ra V (rx x) (K : Rat) N) ∧ (∀ x, c = some x → x.r = q / (K : Rat) ∧ Rc V (rx x) x.r (2 * N)) ∧ ∀ i, g = some i → W0.heap.size ≤ i ∧ Rb V i
theorem Nst.start (W : World) (K : Int) (q : Rat) (N : Nat) : Nst W K q N none none none W.drew := ⟨(Below.refl _ _).drew, (fun x e => by cases e), (fun x e => by cases e), fun i e => by cases e⟩
section
variable {W0 V V' : World} {K : Int} {q : Rat} {N : Nat} {a c : Option Rx} {g : Option Nat}
theorem Nst.step (h : Nst W0 K q N a c g V) (bx : Below V.heap.size V V') : Nst W0 K q N a c g V' :=
 ⟨Below.step h.1 h.1.size bx, fun x e => (h.2.1 x e).step bx, fun x e => ⟨(h.2.2.1 x e).1, (h.2.2.1 x e).2.step bx⟩, fun i e => ⟨(h.2.2.2 i e).1, (h.2.2.2 i e).2.step bx⟩⟩
theorem Nst.al (h : Nst W0 K q N a c none V) : Nst W0 K q N a c (some V.heap.size) (V.alloc rblk) := by
 have k := h.step (bal V rblk)
 exact ⟨k.1, k.2.1, k.2.2.1, fun i e => by injection e with e; subst e; exact ⟨h.1.size, Rb.new V⟩⟩
theorem Nst.wh (h : Nst W0 K q N none c g V) (bx : Below V.heap.size V V') {x : Rx} (hx : x.r = (K : Rat)) (rc : Rc V' (rx x) x.r 1) (h1 : 1 ≤ N := by omega) : Nst W0 K q N (some x) c g V' := by
 have k := h.step bx
 exact ⟨k.1, fun y e => by injection e with e; subst e; rw [← hx]; exact rc.ra.more' h1, k.2.2⟩
theorem Nst.dv (h : Nst W0 K q N a none g V) (bx : Below V.heap.size V V') {x : Rx} (hx : x.r = q / (K : Rat)) (rc : Rc V' (rx x) x.r (2 * N)) : Nst W0 K q N a (some x) g V' := by
 have k := h.step bx
 exact ⟨k.1, k.2.1, fun y e => by injection e with e; subst e; exact ⟨hx, rc⟩, k.2.2.2⟩
end
theorem Nst.fin {W0 V : World} {K : Int} {q : Rat} {N g : Nat} {a : Option Rx} {x : Rx} (h : Nst W0 K q N a (some x) (some g) V) :
  ((V.cell? ⟨g, 0, none⟩ = some (.bool false) ∧ V.cell? ⟨g, 1, none⟩ = some (.slice none 0 0) ∧ V.cell? ⟨g, 2, none⟩ = some (.slice none 0 0)) ∧ V.frozen? ⟨g, 0, none⟩ = false ∧ V.frozen? ⟨g, 1, none⟩ = false ∧ V.frozen? ⟨g, 2, none⟩ = false) ∧
  (x.r = q / (K : Rat) ∧ Rc (((V.setCell ⟨g, 0, none⟩ (.bool x.s)).setCell ⟨g, 1, none⟩ (sv x.u)).setCell ⟨g, 2, none⟩ (sv x.t)) (rx x) x.r (2 * N) ∧ Bq (((V.setCell ⟨g, 0, none⟩ (.bool x.s)).setCell ⟨g, 1, none⟩ (sv x.u)).setCell ⟨g, 2, none⟩ (sv x.t)) g x.s (sv x.u) (sv x.t) ∧ Below W0.heap.size W0 (((V.setCell ⟨g, 0, none⟩ (.bool x.s)).setCell ⟨g, 1, none⟩ (sv x.u)).setCell ⟨g, 2, none⟩ (sv x.t))) := by
 obtain ⟨h1, h2⟩ := h.2.2.2 g rfl
 obtain ⟨k1, k2⟩ := h.2.2.1 x rfl
 exact ⟨⟨⟨h2.c0, h2.c1, h2.c2⟩, h2.fz 0, h2.fz 1, h2.fz 2⟩, k1, k2.grownU (only_put3 V g _ _ _) h2.nu, h2.put _ _ _, below_put3 h.1 h1 _ _ _⟩
set_option maxHeartbeats 8000000 in
theorem mean_c {w : World} {B g m f cl L : Nat} {es : Array MapEntry} {col : Int} {up : Bool} {x : Rx} {k : Int} (hB : Bro w B g m f es cl) (hl : Looks m es cl col up x k) (hx : Ra w (rx x) x.r L) (h1 : 1 ≤ L) (hL : L ≤ 1000000) (k0 : 0 ≤ k) (k1 : k ≤ 1000000) :
  Calls Tryz.prog 43 #[.pointer (some ⟨g, 0, none⟩), sdv col up] w (ScR w (mnv x.r k) (2 * L)) := by
 have b2 : Below w.heap.size w ((w.alloc (.cells #[.int .i64 col, .bool up] 77)).alloc rblk) := ((Below.refl _ _).alloc (Nat.le_refl _) _).alloc (by simp) _
 have Z := hide (show Rb ((w.alloc (.cells #[.int .i64 col, .bool up] 77)).alloc rblk) (w.heap.size + 1) by
  have h := Rb.new (w.alloc (.cells #[.int .i64 col, .bool up] 77))
  have h2 : Rb ((w.alloc (.cells #[.int .i64 col, .bool up] 77)).alloc rblk) (w.heap.size + 1) := by simpa using h
  exact h2)
 have hs : ((w.alloc (.cells #[.int .i64 col, .bool up] 77)).alloc rblk).heap[w.heap.size]? = some (.cells #[.int .i64 col, .bool up] 77 (0, 0)) := heap_alloc2_old w _ _
 have p0 := cell_of_row _ _ 0 _ _ _ hs
 have p1 := cell_of_row _ _ 1 _ _ _ hs
 have HB := hide (hB.step b2)
 have H := hide (hx.step b2)
 have B := hide b2
 have m0 := HB.out.c1
 have HL := hide hl
 clear hB hx b2 hs hl
 go_enter Tryz.func43, Tryz.ntmps43
 go_wp2_with fail
 generalize hW0 : ((w.alloc (.cells #[.int .i64 col, .bool up] 77)).alloc rblk) = W0 at *
 have q0 : W0.drew.cell? ⟨w.heap.size, 0, none⟩ = some (.int .i64 col) := p0
 have q1 : W0.drew.cell? ⟨w.heap.size, 1, none⟩ = some (.bool up) := p1
 have n0 : W0.drew.cell? ⟨g, 1, none⟩ = some (.map (some m)) := m0
 have r0 : (W0.alloc gzero).drew.cell? ⟨w.heap.size, 0, none⟩ = some (.int .i64 col) := (show (W0.alloc gzero).cell? _ = _ from cell_keep p0 (bal W0 gzero))
 have r1 : (W0.alloc gzero).drew.cell? ⟨w.heap.size, 1, none⟩ = some (.bool up) := (show (W0.alloc gzero).cell? _ = _ from cell_keep p1 (bal W0 gzero))
 have s0 : (W0.alloc gzero).drew.cell? ⟨g, 1, none⟩ = some (.map (some m)) := (show (W0.alloc gzero).cell? _ = _ from cell_keep m0 (bal W0 gzero))
 have l0 := HL.out W0.drew HB.out.2.1
 have l1 := HL.out (W0.alloc gzero).drew (show (W0.alloc gzero).heap[m]? = _ from (HB.out.step (bal _ _)).2.1)
 clear p0 p1 m0
 go_region
 all_goals
  clear q0 q1 n0 r0 r1 s0 l0 l1
  have GQ := hide (show Gq (W0.alloc (gbox x k)).drew W0.heap.size x k from heap_alloc_new W0 _)
  have b3 : Below W0.heap.size W0 (W0.alloc (gbox x k)).drew := (bal W0 _).drew
  have LT := hide (show w.heap.size + 1 < W0.heap.size from Z.out.lt)
  replace Z := hide (Z.out.step b3)
  replace H := hide (H.out.step b3)
  replace B := hide (Below.step B.out B.out.size b3)
  clear b3
  obtain ⟨g0, g1, g2, g3⟩ := GQ.out.all
  by_cases hz : k = 0
  ·subst hz
   go_wp2_with fail
   generalize (W0.alloc (gbox x 0)).drew = w2 at *
   refine (whole_o _ 1 (by omega) (by omega)).mono ?_
   rintro e w3 ⟨o, rfl, eo, go, bx⟩
   obtain ⟨⟨k0, k1, k2, f0, f1, f2⟩, f3, f4⟩ := sc_put (w := w) (q := mnv x.r 0) (L := 2 * L) (by rw [eo]; unfold mnv; rw [if_pos rfl]; rfl) (go.1.moreB (by omega)) (Z.out.step bx) (Below.step B.out B.out.size bx) (by omega)
   have F3 := hide f3
   have F4 := hide f4
   clear f3 f4 g0 g1 g2 g3 eo go bx
   go_wp2_with fail
   exact bodyPost_ret (rret rfl _ _ _ #[.bool o.s, sv o.u, sv o.t] rfl rfl F3.out) rfl F4.out
  ·have t1 : (k == 0) = false := by simp [hz]
   have KN := hide (show ((k : Int) : Rat) ≠ 0 from (not_congr Rat.intCast_eq_zero_iff).2 hz)
   have KZ := hide hz
   clear hz
   go_wp2_with fail
   generalize (W0.alloc (gbox x k)).drew = w2 at *
   generalize W0.heap.size = h7 at *
   have st := hide (Nst.start w2 k x.r L)
   clear g0 g1 g2 g3
   refine wp_region_held_drew (S := fun W => W.cell? ⟨h7, 0, none⟩ = some (.bool x.s) ∧ W.cell? ⟨h7, 1, none⟩ = some (sv x.u) ∧ W.cell? ⟨h7, 2, none⟩ = some (sv x.t) ∧ W.cell? ⟨h7, 3, none⟩ = some (.int .i64 k)) (by kernel_rfl) ?_ (fun hHeld => ?_)
   ·try dsimp only
    exact (GQ.out.step st.out.1).all
   generalize w2.drew = V0 at *
   refine tk 0 (v := ?_) hHeld ?_ ?_; rotate_left; (focus (intro w hSw; (try dsimp only at hSw); go_simp; (try with_reducible rfl)))
   try simp only [Act.put, s1, s2, s3, s4, s5, s6]
   refine tk 1 (v := ?_) hHeld ?_ ?_; rotate_left; (focus (intro w hSw; (try dsimp only at hSw); go_simp; (try with_reducible rfl)))
   try simp only [Act.put, s1, s2, s3, s4, s5, s6]
   refine tk 2 (v := ?_) hHeld ?_ ?_; rotate_left; (focus (intro w hSw; (try dsimp only at hSw); go_simp; (try with_reducible rfl)))
   try simp only [Act.put, s1, s2, s3, s4, s5, s6]
   refine tk 3 (v := ?_) hHeld ?_ ?_; rotate_left; (focus (intro w hSw; (try dsimp only at hSw); go_simp; (try with_reducible rfl)))
   try simp only [Act.put, s1, s2, s3, s4, s5, s6]
   refine r2 4 9 (fun K hK => ?_) (fun K hK => ?_)
   ·go_simp; go_at_call 69; refine Calls.mono (whole_o _ k (by omega) (by omega)) ?_; rintro e V1 ⟨xa, rfl, hx, rc, bx⟩; replace st := hide (st.out.wh bx hx rc.1); clear hx rc bx; (try dsimp only); refine hK.out _ _ ?_ (fun hHeld => ?_); (focus ((try dsimp only); exact (GQ.out.step st.out.1).all)); clear hK K
    try simp only [Act.put, s1, s2, s3, s4, s5, s6]
    try simp only [Act.put, s1, s2, s3, s4, s5, s6]
    refine r2 5 9 (fun K hK => ?_) (fun K hK => ?_)
    ·go_simp; go_at_call 38; refine Calls.mono (bdiv_x (L := L) (H.out.step st.out.1) (st.out.2.1 _ rfl) KN.out h1 (by omega)) ?_; rintro e V2 ⟨z, rfl, hz, rz, bx⟩; replace st := hide (st.out.dv bx hz rz); clear hz rz bx; (try dsimp only); refine hK.out _ _ ?_ (fun hHeld => ?_); (focus ((try dsimp only); exact (GQ.out.step st.out.1).all)); clear hK K
     try simp only [Act.put, s1, s2, s3, s4, s5, s6]
     refine tp 6 hHeld ?_
     try simp only [Act.put, s1, s2, s3, s4, s5, s6]
     refine tp 7 hHeld ?_
     try simp only [Act.put, s1, s2, s3, s4, s5, s6]
     refine tp 8 hHeld ?_
     try simp only [Act.put, s1, s2, s3, s4, s5, s6]
     refine r1 9 (fun K hK => ?_)
     go_simp; replace st := hide st.out.al; generalize (V2.alloc rblk) = V3 at *; generalize V2.heap.size = g7 at *; (try dsimp only); refine hK.out _ _ ?_ (fun hHeld => ?_); (focus ((try dsimp only); exact (GQ.out.step st.out.1).all)); clear hK K
     try simp only [Act.put, s1, s2, s3, s4, s5, s6]
     try simp only [Act.put, s1, s2, s3, s4, s5, s6]
     refine r1 10 (fun K hK => ?_)
     obtain ⟨⟨⟨k0, k1, k2⟩, f0, f1, f2⟩, fin⟩ := st.out.fin; have FN := hide fin; clear fin; go_simp; clear k0 k1 k2 f0 f1 f2 st; have FB := hide FN.out.2.2.2; generalize (((V3.setCell ⟨g7, 0, none⟩ (.bool z.s)).setCell ⟨g7, 1, none⟩ (sv z.u)).setCell ⟨g7, 2, none⟩ (sv z.t)) = V4 at *; (try dsimp only); refine hK.out _ _ ?_ (fun hHeld => ?_); (focus ((try dsimp only); exact (GQ.out.step FB.out).all)); clear hK K
     try simp only [Act.put, s1, s2, s3, s4, s5, s6]
     refine tp 11 hHeld ?_
     try simp only [Act.put, s1, s2, s3, s4, s5, s6]
     refine wpAnyH_done (by kernel_rfl) ?_ _
     obtain ⟨e1, e2, e3, e4⟩ := FN.out
     obtain ⟨p0, p1, p2⟩ := bqc e3
     obtain ⟨⟨k0, k1, k2, f0, f1, f2⟩, f3, f4⟩ := sc_put (w := w) (q := mnv x.r k) (by rw [e1]; unfold mnv; rw [if_neg KZ.out]) e2 (Z.out.step e4) (Below.step B.out B.out.size e4) (by omega)
     have F3 := hide f3
     have F4 := hide f4
     clear e1 e2 e3 e4 f3 f4
     go_wp2_with fail
     exact bodyPost_ret (rret rfl _ _ _ #[.bool z.s, sv z.u, sv z.t] rfl rfl F3.out) rfl F4.out
    ·go_simp; replace st := hide st.out.al; generalize (V1.alloc rblk) = V2 at *; generalize V1.heap.size = g7 at *; (try dsimp only); refine hK.out _ _ ?_ (fun hHeld => ?_); (focus ((try dsimp only); exact (GQ.out.step st.out.1).all)); clear hK K
     try simp only [Act.put, s1, s2, s3, s4, s5, s6]
     try simp only [Act.put, s1, s2, s3, s4, s5, s6]
     refine r1 5 (fun K hK => ?_)
     go_simp; go_at_call 38; refine Calls.mono (bdiv_x (L := L) (H.out.step st.out.1) (st.out.2.1 _ rfl) KN.out h1 (by omega)) ?_; rintro e V3 ⟨z, rfl, hz, rz, bx⟩; replace st := hide (st.out.dv bx hz rz); clear hz rz bx; (try dsimp only); refine hK.out _ _ ?_ (fun hHeld => ?_); (focus ((try dsimp only); exact (GQ.out.step st.out.1).all)); clear hK K
     try simp only [Act.put, s1, s2, s3, s4, s5, s6]
     refine tp 6 hHeld ?_
     try simp only [Act.put, s1, s2, s3, s4, s5, s6]
     refine tp 7 hHeld ?_
     try simp only [Act.put, s1, s2, s3, s4, s5, s6]
     refine tp 8 hHeld ?_
     try simp only [Act.put, s1, s2, s3, s4, s5, s6]
     refine r1 10 (fun K hK => ?_)
     obtain ⟨⟨⟨k0, k1, k2⟩, f0, f1, f2⟩, fin⟩ := st.out.fin; have FN := hide fin; clear fin; go_simp; clear k0 k1 k2 f0 f1 f2 st; have FB := hide FN.out.2.2.2; generalize (((V3.setCell ⟨g7, 0, none⟩ (.bool z.s)).setCell ⟨g7, 1, none⟩ (sv z.u)).setCell ⟨g7, 2, none⟩ (sv z.t)) = V4 at *; (try dsimp only); refine hK.out _ _ ?_ (fun hHeld => ?_); (focus ((try dsimp only); exact (GQ.out.step FB.out).all)); clear hK K
     try simp only [Act.put, s1, s2, s3, s4, s5, s6]
     refine tp 11 hHeld ?_
     try simp only [Act.put, s1, s2, s3, s4, s5, s6]
     refine wpAnyH_done (by kernel_rfl) ?_ _
     obtain ⟨e1, e2, e3, e4⟩ := FN.out
     obtain ⟨p0, p1, p2⟩ := bqc e3
     obtain ⟨⟨k0, k1, k2, f0, f1, f2⟩, f3, f4⟩ := sc_put (w := w) (q := mnv x.r k) (by rw [e1]; unfold mnv; rw [if_neg KZ.out]) e2 (Z.out.step e4) (Below.step B.out B.out.size e4) (by omega)
     have F3 := hide f3
     have F4 := hide f4
     clear e1 e2 e3 e4 f3 f4
     go_wp2_with fail
     exact bodyPost_ret (rret rfl _ _ _ #[.bool z.s, sv z.u, sv z.t] rfl rfl F3.out) rfl F4.out
   ·go_simp; replace st := hide st.out.al; generalize (V0.alloc rblk) = V1 at *; generalize V0.heap.size = g7 at *; (try dsimp only); refine hK.out _ _ ?_ (fun hHeld => ?_); (focus ((try dsimp only); exact (GQ.out.step st.out.1).all)); clear hK K
    try simp only [Act.put, s1, s2, s3, s4, s5, s6]
    try simp only [Act.put, s1, s2, s3, s4, s5, s6]
    refine r1 4 (fun K hK => ?_)
    go_simp; go_at_call 69; refine Calls.mono (whole_o _ k (by omega) (by omega)) ?_; rintro e V2 ⟨xa, rfl, hx, rc, bx⟩; replace st := hide (st.out.wh bx hx rc.1); clear hx rc bx; (try dsimp only); refine hK.out _ _ ?_ (fun hHeld => ?_); (focus ((try dsimp only); exact (GQ.out.step st.out.1).all)); clear hK K
    try simp only [Act.put, s1, s2, s3, s4, s5, s6]
    try simp only [Act.put, s1, s2, s3, s4, s5, s6]
    refine r1 5 (fun K hK => ?_)
    go_simp; go_at_call 38; refine Calls.mono (bdiv_x (L := L) (H.out.step st.out.1) (st.out.2.1 _ rfl) KN.out h1 (by omega)) ?_; rintro e V3 ⟨z, rfl, hz, rz, bx⟩; replace st := hide (st.out.dv bx hz rz); clear hz rz bx; (try dsimp only); refine hK.out _ _ ?_ (fun hHeld => ?_); (focus ((try dsimp only); exact (GQ.out.step st.out.1).all)); clear hK K
    try simp only [Act.put, s1, s2, s3, s4, s5, s6]
    refine tp 6 hHeld ?_
    try simp only [Act.put, s1, s2, s3, s4, s5, s6]
    refine tp 7 hHeld ?_
    try simp only [Act.put, s1, s2, s3, s4, s5, s6]
    refine tp 8 hHeld ?_
    try simp only [Act.put, s1, s2, s3, s4, s5, s6]
    refine r1 10 (fun K hK => ?_)
    obtain ⟨⟨⟨k0, k1, k2⟩, f0, f1, f2⟩, fin⟩ := st.out.fin; have FN := hide fin; clear fin; go_simp; clear k0 k1 k2 f0 f1 f2 st; have FB := hide FN.out.2.2.2; generalize (((V3.setCell ⟨g7, 0, none⟩ (.bool z.s)).setCell ⟨g7, 1, none⟩ (sv z.u)).setCell ⟨g7, 2, none⟩ (sv z.t)) = V4 at *; (try dsimp only); refine hK.out _ _ ?_ (fun hHeld => ?_); (focus ((try dsimp only); exact (GQ.out.step FB.out).all)); clear hK K
    try simp only [Act.put, s1, s2, s3, s4, s5, s6]
    refine tp 11 hHeld ?_
    try simp only [Act.put, s1, s2, s3, s4, s5, s6]
    refine wpAnyH_done (by kernel_rfl) ?_ _
    obtain ⟨e1, e2, e3, e4⟩ := FN.out
    obtain ⟨p0, p1, p2⟩ := bqc e3
    obtain ⟨⟨k0, k1, k2, f0, f1, f2⟩, f3, f4⟩ := sc_put (w := w) (q := mnv x.r k) (by rw [e1]; unfold mnv; rw [if_neg KZ.out]) e2 (Z.out.step e4) (Below.step B.out B.out.size e4) (by omega)
    have F3 := hide f3
    have F4 := hide f4
    clear e1 e2 e3 e4 f3 f4
    go_wp2_with fail
    exact bodyPost_ret (rret rfl _ _ _ #[.bool z.s, sv z.u, sv z.t] rfl rfl F3.out) rfl F4.out
end Go.Proofs.YtehdkdoaamlkdaaGreat
