
/-
 The walk of BranchEven: true.
-/
import Derived.Test.YtehdkdoaamlkdaaGreatBr6
import Derived.Test.YtehdkdoaamlkdaaGreatKdrw
import Derived.Deep.DeepCutAuto
import Derived.Deep.RegionHeld3


namespace Go.Proofs.YtehdkdoaamlkdaaGreat
open Go.RowKit Go.Proofs.YtehdkdoaamlkdaaGreat.Num Go.Maps
set_option linter.unusedVariables false
set_option linter.unusedSimpArgs false
set_option maxRecDepth 100000
theorem scK1 {w : World} {B g m cl : Nat} (hB : Bro w B g m 21 #[] cl) {L N : Nat} (h1 : 1 ≤ L) (hL : L ≤ 100000) (hN : 4 + 3 * L + 1 ≤ N) : ScK w g (prv 1 1) L N := by
 intro W i x r hb hx
 have e1 : mnv (0 : Rat) 0 = 1 := if_pos rfl
 have k := score1_c (x0 := ⟨false, (none, 0, 0), (none, 0, 0), 0⟩) (x1 := ⟨false, (none, 0, 0), (none, 0, 0), 0⟩) (k0 := 0) (k1 := 0) (M := 1) (col := i) (hB.step hb) (fun W h => look_nil i false h) (fun W h => look_nil i true h) (ra_zero _ _) (ra_zero _ _) hx h1 hL (by omega) (by omega) (by omega) (by omega) (by omega) (by omega)
 rw [e1] at k
 refine k.mono fun e w' h => ?_
 obtain ⟨y, e1, e2, e3, e4⟩ := h
 exact ⟨y, e1, e2, e3.moreB (by omega), e4⟩
theorem lsr_even (r : Rat) : lsr (1 - r) = lsr r := by
 unfold lsr
 split <;> split <;> grind
theorem prv_even (r : Rat) : prv 1 1 (1 - r) = prv 1 1 r := by
 unfold prv
 grind
def Est (W0 : World) (r : Rat) (a b c d : Option Rx) (g : Option Nat) (V : World) : Prop :=
 Below W0.heap.size W0 V ∧ (∀ x, a = some x → x.r = ((1 : Int) : Rat) ∧ Rf V (rx x) x.r 30) ∧ (∀ x, b = some x → x.r = r ∧ Rf V (rx x) x.r 30) ∧ (∀ x, c = some x → x.r = 1 - r ∧ Rf V (rx x) x.r 61) ∧ (∀ x, d = some x → x.r = 1 - r ∧ Rc V (rx x) x.r 61) ∧ ∀ i, g = some i → W0.heap.size ≤ i ∧ Rb V i
theorem Est.start (W : World) (r : Rat) : Est W r none none none none none W.drew := ⟨(Below.refl _ _).drew, (fun x e => by cases e), (fun x e => by cases e), (fun x e => by cases e), (fun x e => by cases e), fun i e => by cases e⟩
section
variable {W0 V V' : World} {r : Rat} {a b c d : Option Rx} {g : Option Nat}
theorem Est.step (h : Est W0 r a b c d g V) (bx : Below V.heap.size V V') : Est W0 r a b c d g V' :=
 ⟨Below.step h.1 h.1.size bx, fun x e => ⟨(h.2.1 x e).1, (h.2.1 x e).2.step bx⟩, fun x e => ⟨(h.2.2.1 x e).1, (h.2.2.1 x e).2.step bx⟩, fun x e => ⟨(h.2.2.2.1 x e).1, (h.2.2.2.1 x e).2.step bx⟩, fun x e => ⟨(h.2.2.2.2.1 x e).1, (h.2.2.2.2.1 x e).2.step bx⟩, fun i e => ⟨(h.2.2.2.2.2 i e).1, (h.2.2.2.2.2 i e).2.step bx⟩⟩
theorem Est.al (h : Est W0 r a b c d none V) : Est W0 r a b c d (some V.heap.size) (V.alloc rblk) := by
 have k := h.step (bal V rblk)
 exact ⟨k.1, k.2.1, k.2.2.1, k.2.2.2.1, k.2.2.2.2.1, fun i e => by injection e with e; subst e; exact ⟨h.1.size, Rb.new V⟩⟩
theorem Est.sm (h : Est W0 r none b c d g V) (bx : Below V.heap.size V V') {x : Rx} (hx : x.r = ((1 : Int) : Rat)) (rc : Rf V' (rx x) x.r 6) : Est W0 r (some x) b c d g V' := by
 have k := h.step bx
 exact ⟨k.1, fun y e => by injection e with e; subst e; exact ⟨hx, rc.more (by omega)⟩, k.2.2⟩
theorem Est.of1 (h : Est W0 r a none c d g V) (bx : Below V.heap.size V V') {x : Rx} (hx : x.r = r) (rc : Rf V' (rx x) x.r 30) : Est W0 r a (some x) c d g V' := by
 have k := h.step bx
 exact ⟨k.1, k.2.1, fun y e => by injection e with e; subst e; exact ⟨hx, rc⟩, k.2.2.2⟩
theorem Est.su (h : Est W0 r a b none d g V) (bx : Below V.heap.size V V') {x : Rx} (hx : x.r = 1 - r) (rc : Rf V' (rx x) x.r 61) : Est W0 r a b (some x) d g V' := by
 have k := h.step bx
 exact ⟨k.1, k.2.1, k.2.2.1, fun y e => by injection e with e; subst e; exact ⟨hx, rc⟩, k.2.2.2.2⟩
theorem Est.to (h : Est W0 r a b c none g V) (bx : Below V.heap.size V V') {x : Rx} (hx : x.r = 1 - r) (rc : Rc V' (rx x) x.r 61) : Est W0 r a b c (some x) g V' := by
 have k := h.step bx
 exact ⟨k.1, k.2.1, k.2.2.1, k.2.2.2.1, fun y e => by injection e with e; subst e; exact ⟨hx, rc⟩, k.2.2.2.2.2⟩
end
def EEnd (W0 : World) (r : Rat) (s : Value) (V : World) : Prop := ∃ x g, s = .pointer (some ⟨g, 0, none⟩) ∧ x.r = 1 - r ∧ Rc V (rx x) x.r 61 ∧ W0.heap.size ≤ g ∧ Bq V g x.s (sv x.u) (sv x.t) ∧ Below W0.heap.size W0 V
theorem EEnd.below {W0 V : World} {r : Rat} {s : Value} (h : EEnd W0 r s V) : Below W0.heap.size W0 V := by
 obtain ⟨x, g, -, -, -, -, -, h⟩ := h
 exact h
theorem Est.fin {W0 V : World} {r : Rat} {g : Nat} {a b c : Option Rx} {x : Rx} (h : Est W0 r a b c (some x) (some g) V) :
  ((V.cell? ⟨g, 0, none⟩ = some (.bool false) ∧ V.cell? ⟨g, 1, none⟩ = some (.slice none 0 0) ∧ V.cell? ⟨g, 2, none⟩ = some (.slice none 0 0)) ∧ V.frozen? ⟨g, 0, none⟩ = false ∧ V.frozen? ⟨g, 1, none⟩ = false ∧ V.frozen? ⟨g, 2, none⟩ = false) ∧
  EEnd W0 r (.pointer (some ⟨g, 0, none⟩)) (((V.setCell ⟨g, 0, none⟩ (.bool x.s)).setCell ⟨g, 1, none⟩ (sv x.u)).setCell ⟨g, 2, none⟩ (sv x.t)) := by
 obtain ⟨h1, h2⟩ := h.2.2.2.2.2 g rfl
 obtain ⟨k1, k2⟩ := h.2.2.2.2.1 x rfl
 exact ⟨⟨⟨h2.c0, h2.c1, h2.c2⟩, h2.fz 0, h2.fz 1, h2.fz 2⟩, x, g, rfl, k1, k2.grownU (only_put3 V g _ _ _) h2.nu, h1, h2.put _ _ _, below_put3 h.1 h1 _ _ _⟩
theorem brnew_c (w : World) (z : Int) (hz : z = 0 ∨ z = 1) : Calls Tryz.prog 7 #[.int .i64 z] w fun e w' => ∃ (g : Nat) (S : Rat → Rat), e = .returned (.tuple #[.pointer (some ⟨g, 0, none⟩), .int .i64 0]) ∧
  (∀ L N, 1 ≤ L → L ≤ 100000 → 4 + 3 * L + 1 ≤ N → ScK w' g S L N) ∧ (∀ r, S (1 - r) = S r) ∧ Below w.heap.size w w' := by
 rcases hz with rfl | rfl
 ·refine (brnew0 w).mono fun e w' h => ?_
  obtain ⟨g, m, e1, h1, h2⟩ := h
  exact ⟨g, lsr, e1, fun L N a b c => scK0 h1 a (by omega) (by omega), lsr_even, h2⟩
 ·refine (brnew1 w).mono fun e w' h => ?_
  obtain ⟨g, m, e1, h1, h2⟩ := h
  exact ⟨g, prv 1 1, e1, fun L N a b c => scK1 h1 a b c, prv_even, h2⟩
set_option maxHeartbeats 16000000 in
theorem breven_go (w : World) (z c : Int) (x : Rx) (r : Rat) (hz : (Lit.int .i64 z).wf = true) (hc : (Lit.int .i64 c).wf = true) (hx : Ra w (rx x) r 17592186043904) :
  Calls Tryz.prog 4 #[.int .i64 z, .int .i64 c, rx x] w fun e w' => e = .returned (.bool true) ∧ Below w.heap.size w w' := by
 have b0 := bal w (rbox x.s (sv x.u) (sv x.t))
 have P := hide (Bq.new w x.s (sv x.u) (sv x.t))
 have H := hide (hx.step b0)
 have B := hide b0
 clear hx b0
 go_enter Tryz.func4, Tryz.ntmps4
 go_wp2_with fail
 generalize (w.alloc (rbox x.s (sv x.u) (sv x.t))) = w0 at *
 refine (brspeaks_true w0).mono ?_
 rintro e w1 ⟨rfl, bx⟩
 replace P := hide (P.out.step bx)
 replace H := hide (H.out.step bx)
 replace B := hide (Below.step B.out B.out.size bx)
 clear bx
 obtain ⟨p0, p1, p2⟩ := bqc P.out
 go_wp2_with fail
 refine (words_x H.out (by omega)).mono ?_
 rintro e w2 ⟨rfl, bx⟩
 replace P := hide (P.out.step bx)
 replace H := hide (H.out.step bx)
 replace B := hide (Below.step B.out B.out.size bx)
 clear bx p0 p1 p2
 obtain ⟨m, hm⟩ : ∃ m, m = x.u.2.1 + x.t.2.1 := ⟨_, rfl⟩
 rw [← hm]
 have HM := hide hm
 clear hm
 by_cases h6 : 6 < m
 ·have t1 : decide ((6 : Int) < (m : Int)) = true := decide_eq_true (by omega)
  go_wp2_with fail
  go_ret
  exact ⟨rfl, B.out⟩
 ·have t1 : decide ((6 : Int) < (m : Int)) = false := decide_eq_false (by omega)
  replace H := hide (H.out.tight (M := 6) (by have := HM.out; omega) (by have := HM.out; omega))
  clear h6
  by_cases hz2 : z = 0 ∨ z = 1
  case neg =>
   have hz0 : z ≠ 0 := fun h => hz2 (.inl h)
   have hz1 : z ≠ 1 := fun h => hz2 (.inr h)
   have t2 : (z != 0) = true := by simp [hz0]
   have t3 : (z != 1) = true := by simp [hz1]
   clear hz2
   go_wp2_with fail
   refine (brnewx w2 z hz0 hz1).mono ?_
   rintro e w3 ⟨rfl, bx⟩
   replace B := hide (Below.step B.out B.out.size bx)
   clear bx
   go_wp2_with fail
   go_ret
   exact ⟨rfl, B.out⟩
  case pos =>
   go_wp2_with fail
   refine (brnew_c w2 z hz2).mono ?_
   rintro e w3 ⟨g, S, rfl, hs, he, bx⟩
   have HS := hide hs
   have HE := hide he
   replace P := hide (P.out.step bx)
   replace H := hide (H.out.step bx)
   replace B := hide (Below.step B.out B.out.size bx)
   clear bx hs he t1 hz2
   go_wp2_with fail
   go_cut [9] from 28 to 32 (fun s wx => EEnd w3 r s wx)
   case first =>
    have st := hide (Est.start w3 r)
    refine wp_region_held_drew (S := fun W => W.cell? ⟨w.heap.size, 0, none⟩ = some (.bool x.s) ∧ W.cell? ⟨w.heap.size, 1, none⟩ = some (sv x.u) ∧ W.cell? ⟨w.heap.size, 2, none⟩ = some (sv x.t)) (by kernel_rfl) ?_ (fun hHeld => ?_)
    ·try dsimp only
     exact bqc (P.out.step st.out.1)
    generalize w3.drew = V0 at *
    refine tk 1 (v := ?_) hHeld ?_ ?_; rotate_left; (focus (intro w hSw; (try dsimp only at hSw); go_simp; (try with_reducible rfl)))
    try simp only [Act.put, s1, s2, s3, s4, s5, s6]
    refine r2 0 5 (fun K hK => ?_) (fun K hK => ?_)
    ·go_simp; go_at_call 14; refine Calls.mono (rqsmall_f _ 1 (by omega) (by omega)) ?_; rintro e V1 ⟨xa, rfl, hx, rc, bx⟩; replace st := hide (st.out.sm bx hx rc); clear hx rc bx; (try dsimp only); refine hK.out _ _ ?_ (fun hHeld => ?_); (focus ((try dsimp only); exact bqc (P.out.step st.out.1))); clear hK K
     try simp only [Act.put, s1, s2, s3, s4, s5, s6]
     try simp only [Act.put, s1, s2, s3, s4, s5, s6]
     refine r2 2 5 (fun K hK => ?_) (fun K hK => ?_)
     ·go_simp; go_at_call 10; refine Calls.mono (rof_f (L := 6) (H.out.step st.out.1) (by omega) (by omega)) ?_; rintro e V2 ⟨xb, rfl, hx, rc, bx⟩; replace st := hide (st.out.of1 bx hx rc); clear hx rc bx; (try dsimp only); refine hK.out _ _ ?_ (fun hHeld => ?_); (focus ((try dsimp only); exact bqc (P.out.step st.out.1))); clear hK K
      try simp only [Act.put, s1, s2, s3, s4, s5, s6]
      try simp only [Act.put, s1, s2, s3, s4, s5, s6]
      refine r2 3 5 (fun K hK => ?_) (fun K hK => ?_)
      ·go_simp; go_at_call 13; refine Calls.mono (rqsub_f (L := 30) (st.out.2.1 _ rfl).2 (st.out.2.2.1 _ rfl).2 (by omega) (by omega)) ?_; rintro e V3 ⟨xc, rfl, hx, rc, bx⟩; have hx2 : xc.r = 1 - r := (by rw [hx, (st.out.2.1 _ rfl).1, (st.out.2.2.1 _ rfl).1]; rfl); replace st := hide (st.out.su bx hx2 rc); clear hx hx2 rc bx; (try dsimp only); refine hK.out _ _ ?_ (fun hHeld => ?_); (focus ((try dsimp only); exact bqc (P.out.step st.out.1))); clear hK K
       try simp only [Act.put, s1, s2, s3, s4, s5, s6]
       try simp only [Act.put, s1, s2, s3, s4, s5, s6]
       refine r2 4 5 (fun K hK => ?_) (fun K hK => ?_)
       ·go_simp; go_at_call 12; refine Calls.mono (rfto_f (L := 61) (st.out.2.2.2.1 _ rfl).2 (by omega)) ?_; rintro e V4 ⟨xd, rfl, hx, rc, bx⟩; have hx2 : xd.r = 1 - r := (by rw [hx, (st.out.2.2.2.1 _ rfl).1]); replace st := hide (st.out.to bx hx2 rc); clear hx hx2 rc bx; (try dsimp only); refine hK.out _ _ ?_ (fun hHeld => ?_); (focus ((try dsimp only); exact bqc (P.out.step st.out.1))); clear hK K
        try simp only [Act.put, s1, s2, s3, s4, s5, s6]
        try simp only [Act.put, s1, s2, s3, s4, s5, s6]
        refine r1 5 (fun K hK => ?_)
        go_simp; replace st := hide st.out.al; generalize (V4.alloc rblk) = V5 at *; generalize V4.heap.size = g7 at *; (try dsimp only); refine hK.out _ _ ?_ (fun hHeld => ?_); (focus ((try dsimp only); exact bqc (P.out.step st.out.1))); clear hK K
        try simp only [Act.put, s1, s2, s3, s4, s5, s6]
        try simp only [Act.put, s1, s2, s3, s4, s5, s6]
        refine r1 6 (fun K hK => ?_)
        obtain ⟨⟨⟨k0, k1, k2⟩, f0, f1, f2⟩, fin⟩ := st.out.fin; have FN := hide fin; clear fin; go_simp; clear k0 k1 k2 f0 f1 f2 st; have FB := hide FN.out.below; generalize (((V5.setCell ⟨g7, 0, none⟩ (.bool xd.s)).setCell ⟨g7, 1, none⟩ (sv xd.u)).setCell ⟨g7, 2, none⟩ (sv xd.t)) = V6 at *; (try dsimp only); refine hK.out _ _ ?_ (fun hHeld => ?_); (focus ((try dsimp only); exact bqc (P.out.step FB.out))); clear hK K
        try simp only [Act.put, s1, s2, s3, s4, s5, s6]
        refine wpAnyH_done (by kernel_rfl) ?_ _
        go_wp2_with fail; go_meet; exact FN.out
       ·go_simp; replace st := hide st.out.al; generalize (V3.alloc rblk) = V4 at *; generalize V3.heap.size = g7 at *; (try dsimp only); refine hK.out _ _ ?_ (fun hHeld => ?_); (focus ((try dsimp only); exact bqc (P.out.step st.out.1))); clear hK K
        try simp only [Act.put, s1, s2, s3, s4, s5, s6]
        try simp only [Act.put, s1, s2, s3, s4, s5, s6]
        refine r1 4 (fun K hK => ?_)
        go_simp; go_at_call 12; refine Calls.mono (rfto_f (L := 61) (st.out.2.2.2.1 _ rfl).2 (by omega)) ?_; rintro e V5 ⟨xd, rfl, hx, rc, bx⟩; have hx2 : xd.r = 1 - r := (by rw [hx, (st.out.2.2.2.1 _ rfl).1]); replace st := hide (st.out.to bx hx2 rc); clear hx hx2 rc bx; (try dsimp only); refine hK.out _ _ ?_ (fun hHeld => ?_); (focus ((try dsimp only); exact bqc (P.out.step st.out.1))); clear hK K
        try simp only [Act.put, s1, s2, s3, s4, s5, s6]
        try simp only [Act.put, s1, s2, s3, s4, s5, s6]
        refine r1 6 (fun K hK => ?_)
        obtain ⟨⟨⟨k0, k1, k2⟩, f0, f1, f2⟩, fin⟩ := st.out.fin; have FN := hide fin; clear fin; go_simp; clear k0 k1 k2 f0 f1 f2 st; have FB := hide FN.out.below; generalize (((V5.setCell ⟨g7, 0, none⟩ (.bool xd.s)).setCell ⟨g7, 1, none⟩ (sv xd.u)).setCell ⟨g7, 2, none⟩ (sv xd.t)) = V6 at *; (try dsimp only); refine hK.out _ _ ?_ (fun hHeld => ?_); (focus ((try dsimp only); exact bqc (P.out.step FB.out))); clear hK K
        try simp only [Act.put, s1, s2, s3, s4, s5, s6]
        refine wpAnyH_done (by kernel_rfl) ?_ _
        go_wp2_with fail; go_meet; exact FN.out
      ·go_simp; replace st := hide st.out.al; generalize (V2.alloc rblk) = V3 at *; generalize V2.heap.size = g7 at *; (try dsimp only); refine hK.out _ _ ?_ (fun hHeld => ?_); (focus ((try dsimp only); exact bqc (P.out.step st.out.1))); clear hK K
       try simp only [Act.put, s1, s2, s3, s4, s5, s6]
       try simp only [Act.put, s1, s2, s3, s4, s5, s6]
       refine r1 3 (fun K hK => ?_)
       go_simp; go_at_call 13; refine Calls.mono (rqsub_f (L := 30) (st.out.2.1 _ rfl).2 (st.out.2.2.1 _ rfl).2 (by omega) (by omega)) ?_; rintro e V4 ⟨xc, rfl, hx, rc, bx⟩; have hx2 : xc.r = 1 - r := (by rw [hx, (st.out.2.1 _ rfl).1, (st.out.2.2.1 _ rfl).1]; rfl); replace st := hide (st.out.su bx hx2 rc); clear hx hx2 rc bx; (try dsimp only); refine hK.out _ _ ?_ (fun hHeld => ?_); (focus ((try dsimp only); exact bqc (P.out.step st.out.1))); clear hK K
       try simp only [Act.put, s1, s2, s3, s4, s5, s6]
       try simp only [Act.put, s1, s2, s3, s4, s5, s6]
       refine r1 4 (fun K hK => ?_)
       go_simp; go_at_call 12; refine Calls.mono (rfto_f (L := 61) (st.out.2.2.2.1 _ rfl).2 (by omega)) ?_; rintro e V5 ⟨xd, rfl, hx, rc, bx⟩; have hx2 : xd.r = 1 - r := (by rw [hx, (st.out.2.2.2.1 _ rfl).1]); replace st := hide (st.out.to bx hx2 rc); clear hx hx2 rc bx; (try dsimp only); refine hK.out _ _ ?_ (fun hHeld => ?_); (focus ((try dsimp only); exact bqc (P.out.step st.out.1))); clear hK K
       try simp only [Act.put, s1, s2, s3, s4, s5, s6]
       try simp only [Act.put, s1, s2, s3, s4, s5, s6]
       refine r1 6 (fun K hK => ?_)
       obtain ⟨⟨⟨k0, k1, k2⟩, f0, f1, f2⟩, fin⟩ := st.out.fin; have FN := hide fin; clear fin; go_simp; clear k0 k1 k2 f0 f1 f2 st; have FB := hide FN.out.below; generalize (((V5.setCell ⟨g7, 0, none⟩ (.bool xd.s)).setCell ⟨g7, 1, none⟩ (sv xd.u)).setCell ⟨g7, 2, none⟩ (sv xd.t)) = V6 at *; (try dsimp only); refine hK.out _ _ ?_ (fun hHeld => ?_); (focus ((try dsimp only); exact bqc (P.out.step FB.out))); clear hK K
       try simp only [Act.put, s1, s2, s3, s4, s5, s6]
       refine wpAnyH_done (by kernel_rfl) ?_ _
       go_wp2_with fail; go_meet; exact FN.out
     ·go_simp; replace st := hide st.out.al; generalize (V1.alloc rblk) = V2 at *; generalize V1.heap.size = g7 at *; (try dsimp only); refine hK.out _ _ ?_ (fun hHeld => ?_); (focus ((try dsimp only); exact bqc (P.out.step st.out.1))); clear hK K
      try simp only [Act.put, s1, s2, s3, s4, s5, s6]
      try simp only [Act.put, s1, s2, s3, s4, s5, s6]
      refine r1 2 (fun K hK => ?_)
      go_simp; go_at_call 10; refine Calls.mono (rof_f (L := 6) (H.out.step st.out.1) (by omega) (by omega)) ?_; rintro e V3 ⟨xb, rfl, hx, rc, bx⟩; replace st := hide (st.out.of1 bx hx rc); clear hx rc bx; (try dsimp only); refine hK.out _ _ ?_ (fun hHeld => ?_); (focus ((try dsimp only); exact bqc (P.out.step st.out.1))); clear hK K
      try simp only [Act.put, s1, s2, s3, s4, s5, s6]
      try simp only [Act.put, s1, s2, s3, s4, s5, s6]
      refine r1 3 (fun K hK => ?_)
      go_simp; go_at_call 13; refine Calls.mono (rqsub_f (L := 30) (st.out.2.1 _ rfl).2 (st.out.2.2.1 _ rfl).2 (by omega) (by omega)) ?_; rintro e V4 ⟨xc, rfl, hx, rc, bx⟩; have hx2 : xc.r = 1 - r := (by rw [hx, (st.out.2.1 _ rfl).1, (st.out.2.2.1 _ rfl).1]; rfl); replace st := hide (st.out.su bx hx2 rc); clear hx hx2 rc bx; (try dsimp only); refine hK.out _ _ ?_ (fun hHeld => ?_); (focus ((try dsimp only); exact bqc (P.out.step st.out.1))); clear hK K
      try simp only [Act.put, s1, s2, s3, s4, s5, s6]
      try simp only [Act.put, s1, s2, s3, s4, s5, s6]
      refine r1 4 (fun K hK => ?_)
      go_simp; go_at_call 12; refine Calls.mono (rfto_f (L := 61) (st.out.2.2.2.1 _ rfl).2 (by omega)) ?_; rintro e V5 ⟨xd, rfl, hx, rc, bx⟩; have hx2 : xd.r = 1 - r := (by rw [hx, (st.out.2.2.2.1 _ rfl).1]); replace st := hide (st.out.to bx hx2 rc); clear hx hx2 rc bx; (try dsimp only); refine hK.out _ _ ?_ (fun hHeld => ?_); (focus ((try dsimp only); exact bqc (P.out.step st.out.1))); clear hK K
      try simp only [Act.put, s1, s2, s3, s4, s5, s6]
      try simp only [Act.put, s1, s2, s3, s4, s5, s6]
      refine r1 6 (fun K hK => ?_)
      obtain ⟨⟨⟨k0, k1, k2⟩, f0, f1, f2⟩, fin⟩ := st.out.fin; have FN := hide fin; clear fin; go_simp; clear k0 k1 k2 f0 f1 f2 st; have FB := hide FN.out.below; generalize (((V5.setCell ⟨g7, 0, none⟩ (.bool xd.s)).setCell ⟨g7, 1, none⟩ (sv xd.u)).setCell ⟨g7, 2, none⟩ (sv xd.t)) = V6 at *; (try dsimp only); refine hK.out _ _ ?_ (fun hHeld => ?_); (focus ((try dsimp only); exact bqc (P.out.step FB.out))); clear hK K
      try simp only [Act.put, s1, s2, s3, s4, s5, s6]
      refine wpAnyH_done (by kernel_rfl) ?_ _
      go_wp2_with fail; go_meet; exact FN.out
    ·go_simp; replace st := hide st.out.al; generalize (V0.alloc rblk) = V1 at *; generalize V0.heap.size = g7 at *; (try dsimp only); refine hK.out _ _ ?_ (fun hHeld => ?_); (focus ((try dsimp only); exact bqc (P.out.step st.out.1))); clear hK K
     try simp only [Act.put, s1, s2, s3, s4, s5, s6]
     try simp only [Act.put, s1, s2, s3, s4, s5, s6]
     refine r1 0 (fun K hK => ?_)
     go_simp; go_at_call 14; refine Calls.mono (rqsmall_f _ 1 (by omega) (by omega)) ?_; rintro e V2 ⟨xa, rfl, hx, rc, bx⟩; replace st := hide (st.out.sm bx hx rc); clear hx rc bx; (try dsimp only); refine hK.out _ _ ?_ (fun hHeld => ?_); (focus ((try dsimp only); exact bqc (P.out.step st.out.1))); clear hK K
     try simp only [Act.put, s1, s2, s3, s4, s5, s6]
     try simp only [Act.put, s1, s2, s3, s4, s5, s6]
     refine r1 2 (fun K hK => ?_)
     go_simp; go_at_call 10; refine Calls.mono (rof_f (L := 6) (H.out.step st.out.1) (by omega) (by omega)) ?_; rintro e V3 ⟨xb, rfl, hx, rc, bx⟩; replace st := hide (st.out.of1 bx hx rc); clear hx rc bx; (try dsimp only); refine hK.out _ _ ?_ (fun hHeld => ?_); (focus ((try dsimp only); exact bqc (P.out.step st.out.1))); clear hK K
     try simp only [Act.put, s1, s2, s3, s4, s5, s6]
     try simp only [Act.put, s1, s2, s3, s4, s5, s6]
     refine r1 3 (fun K hK => ?_)
     go_simp; go_at_call 13; refine Calls.mono (rqsub_f (L := 30) (st.out.2.1 _ rfl).2 (st.out.2.2.1 _ rfl).2 (by omega) (by omega)) ?_; rintro e V4 ⟨xc, rfl, hx, rc, bx⟩; have hx2 : xc.r = 1 - r := (by rw [hx, (st.out.2.1 _ rfl).1, (st.out.2.2.1 _ rfl).1]; rfl); replace st := hide (st.out.su bx hx2 rc); clear hx hx2 rc bx; (try dsimp only); refine hK.out _ _ ?_ (fun hHeld => ?_); (focus ((try dsimp only); exact bqc (P.out.step st.out.1))); clear hK K
     try simp only [Act.put, s1, s2, s3, s4, s5, s6]
     try simp only [Act.put, s1, s2, s3, s4, s5, s6]
     refine r1 4 (fun K hK => ?_)
     go_simp; go_at_call 12; refine Calls.mono (rfto_f (L := 61) (st.out.2.2.2.1 _ rfl).2 (by omega)) ?_; rintro e V5 ⟨xd, rfl, hx, rc, bx⟩; have hx2 : xd.r = 1 - r := (by rw [hx, (st.out.2.2.2.1 _ rfl).1]); replace st := hide (st.out.to bx hx2 rc); clear hx hx2 rc bx; (try dsimp only); refine hK.out _ _ ?_ (fun hHeld => ?_); (focus ((try dsimp only); exact bqc (P.out.step st.out.1))); clear hK K
     try simp only [Act.put, s1, s2, s3, s4, s5, s6]
     try simp only [Act.put, s1, s2, s3, s4, s5, s6]
     refine r1 6 (fun K hK => ?_)
     obtain ⟨⟨⟨k0, k1, k2⟩, f0, f1, f2⟩, fin⟩ := st.out.fin; have FN := hide fin; clear fin; go_simp; clear k0 k1 k2 f0 f1 f2 st; have FB := hide FN.out.below; generalize (((V5.setCell ⟨g7, 0, none⟩ (.bool xd.s)).setCell ⟨g7, 1, none⟩ (sv xd.u)).setCell ⟨g7, 2, none⟩ (sv xd.t)) = V6 at *; (try dsimp only); refine hK.out _ _ ?_ (fun hHeld => ?_); (focus ((try dsimp only); exact bqc (P.out.step FB.out))); clear hK K
     try simp only [Act.put, s1, s2, s3, s4, s5, s6]
     refine wpAnyH_done (by kernel_rfl) ?_ _
     go_wp2_with fail; go_meet; exact FN.out
   case rest =>
    obtain ⟨y, gy, rfl, hy, ry, hgy, bq, bx⟩ := hcut
    have EY := hide hy
    have bd := (Below.refl wc.heap.size wc).drew
    have RY := hide (ry.step bd)
    have PY := hide (bq.step bd)
    replace P := hide ((P.out.step bx).step bd)
    replace H := hide ((H.out.step bx).step bd)
    have SC := hide (HS.out 61 188 (by omega) (by omega) (by omega))
    have B3 := hide (Below.step1 bx bd)
    replace B := hide (Below.step (Below.step B.out B.out.size bx) (Below.step B.out B.out.size bx).size bd)
    have T0 := hide True.intro
    have T1 := hide True.intro
    clear hy ry hgy bq bx bd HS
    go_wp2_with fail
    go_region_held3 (fun W => (W.cell? ⟨w.heap.size, 0, none⟩ = some (.bool x.s) ∧ W.cell? ⟨w.heap.size, 1, none⟩ = some (sv x.u) ∧ W.cell? ⟨w.heap.size, 2, none⟩ = some (sv x.t)) ∧ (W.cell? ⟨gy, 0, none⟩ = some (.bool y.s) ∧ W.cell? ⟨gy, 1, none⟩ = some (sv y.u) ∧ W.cell? ⟨gy, 2, none⟩ = some (sv y.t)))
     (with_reducible exact And.intro (bqc P.out) (bqc PY.out))
     (first
      | (go_at_call 16; clear T0; refine Calls.mono (SC.out _ c x r B3.out (H.out.more' (by omega))) ?_; rintro e wx ⟨u0, rfl, eu, cu, bx⟩; have E0 := hide eu; have C0 := hide cu; replace P := hide (P.out.step bx); replace PY := hide (PY.out.step bx); replace RY := hide (RY.out.step bx); replace B3 := hide (Below.step1 B3.out bx); replace B := hide (Below.step B.out B.out.size bx); clear bx eu cu)
      | (go_at_call 16; clear T1; refine Calls.mono (SC.out _ c y y.r B3.out RY.out.ra) ?_; rintro e wx ⟨u1, rfl, eu, cu, bx⟩; have E1 := hide (show u1.r = S r by rw [eu, EY.out, HE.out]); have C1 := hide cu; replace C0 := hide (C0.out.step bx); replace P := hide (P.out.step bx); replace PY := hide (PY.out.step bx); replace B := hide (Below.step B.out B.out.size bx); clear bx eu cu)
      | (go_at_call 15; refine Calls.mono (rsame_c (r := S r) (L := 188) (M := 188) (by have := C0.out; rw [E0.out] at this; exact this) (by have := C1.out; rw [E1.out] at this; exact this)) ?_; rintro e wx ⟨rfl, bx⟩; replace P := hide (P.out.step bx); replace PY := hide (PY.out.step bx); replace B := hide (Below.step B.out B.out.size bx); clear bx))
    all_goals
     go_wp2_with fail
     go_ret
     exact ⟨rfl, B.out⟩
end Go.Proofs.YtehdkdoaamlkdaaGreat
