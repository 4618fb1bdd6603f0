
/-
 pool.Add.
-/
import Derived.Test.YtofmhfbbedalbaaGreatPl7
import Derived.Test.YtofmhfbbedalbaaGreatKdr3
import Derived.Deep.DeepCutAuto


namespace Go.Proofs.YtofmhfbbedalbaaGreat
open Go.RowKit Go.Joins Go.Deep Go.Proofs.YtofmhfbbedalbaaGreat.Num
set_option linter.unusedVariables false
set_option linter.unusedSimpArgs false
set_option maxRecDepth 100000
theorem Below.trans' {B : Nat} {w W : World} (h : Below w.heap.size w W) (hB : B ≤ w.heap.size) : Below B w W := h.mono hB
theorem ow_kq {W : World} {B g : Nat} {k : Kx} {v : Value} {l : List Cx} (h : Ow 79 ec 6 W B v l) (hq : Kq W g k) : v.ownBlock ≠ some g := by
 intro hg
 rcases h.form with ⟨rfl, _⟩ | ⟨g', cap, cur, rfl, hB, hlt, hh, r⟩
 ·cases hg
 ·have e : g' = g := by simpa [Value.ownBlock] using hg
  subst e
  unfold Kq at hq
  rw [hq] at hh
  injection hh with hh
  injection hh with _ e2 _
  exact absurd e2 (by decide)
def AdRet (w : World) (B g : Nat) (p : Int) (l : List Cx) (c : Kx) (M : Nat) (e : Ending) (w' : World) : Prop :=
 ∃ (b : Bool) (v' : Sl) (l' : List Cx) (r : Kx), e = .returned (.bool b) ∧ Plo w' B g p v' l' M ∧ Put (cvs l) (cv r) b (cvs l') ∧ r.s = c.s ∧ Scl (tms c.d) c.x.r (tms r.d) r.x.r ∧ l'.length ≤ l.length + 1 ∧ Below B w w'
set_option maxHeartbeats 16000000 in
theorem pladd_c {w : World} {B g : Nat} {p : Int} {v : Sl} {l : List Cx} {M : Nat} {c : Kx} {L N : Nat} (hp : Plo w B g p v l M) (hB : B ≤ w.heap.size) (hc : Kv w c L) (hn : c.d.length ≤ 100) (h1 : 1 ≤ L) (hN : c.d.length * (L + 1) + 1 + L ≤ N) (hM : 3 * N ≤ M) (hM2 : M ≤ 500000) (hl : l.length ≤ 1000) :
  Calls Tryz.prog 14 #[.pointer (some ⟨g, 0, none⟩), kx c] w (AdRet w B g p l c M) := by
 have b2 := alloc_below w (kbox c)
 have P := hide (Kq.new w c)
 have HC := hide (hc.step b2)
 have B0 := hide b2
 obtain ⟨⟨VA, vn, vc⟩, hv⟩ : ∃ v' : Sl, v' = v := ⟨v, rfl⟩
 subst hv
 have PL0 := hide hp
 have HB := hide hB
 clear hc b2 hp hB
 obtain ⟨p0, p1, p2, p3, p4⟩ := P.out.all
 go_enter Tryz.func14, Tryz.ntmps14
 go_wp2_with fail
 generalize (w.alloc (kbox c)) = w0 at *
 refine (pscale_g (N := N) HC.out (by omega) h1 hN (by omega)).mono ?_
 rintro e w1 ⟨⟨s1, ⟨A1, n1, c1⟩, d1, y1⟩, rfl, kg, es, sc, ln, bx⟩
 dsimp only at es sc ln
 subst es
 obtain ⟨hn1, hc1⟩ := lr_nP kg.1.tv.1
 dsimp only at hn1
 have SC := hide sc
 have LN := hide (show d1.length ≤ 100 by omega)
 have N1 := hide hn1
 have NN := hide (show 1 ≤ N by omega)
 have KG := hide (show Kg (((((w1.setCell ⟨w.heap.size, 0, none⟩ (.int .i64 c.s)).setCell ⟨w.heap.size, 1, none⟩ (.slice A1 n1 c1)).setCell ⟨w.heap.size, 2, none⟩ (.bool y1.s)).setCell ⟨w.heap.size, 3, none⟩ (sv y1.u)).setCell ⟨w.heap.size, 4, none⟩ (sv y1.t)) w.heap.size ⟨c.s, (A1, n1, c1), d1, y1⟩ (3 * N) from (kg.mono (B' := w.heap.size) B0.out.size).grownK (only_put5 w1 w.heap.size _ _ _ _ _) (P.out.step bx).kb)
 have PQ := hide (show Kq (((((w1.setCell ⟨w.heap.size, 0, none⟩ (.int .i64 c.s)).setCell ⟨w.heap.size, 1, none⟩ (.slice A1 n1 c1)).setCell ⟨w.heap.size, 2, none⟩ (.bool y1.s)).setCell ⟨w.heap.size, 3, none⟩ (sv y1.u)).setCell ⟨w.heap.size, 4, none⟩ (sv y1.t)) w.heap.size ⟨c.s, (A1, n1, c1), d1, y1⟩ from put5_heap (P.out.step bx) rfl _ _ _ _ _)
 have B2 := hide (below_put5 (Below.step B0.out B0.out.size bx) (Nat.le_refl w.heap.size) (.int .i64 c.s) (.slice A1 n1 c1) (.bool y1.s) (sv y1.u) (sv y1.t))
 have PL := hide (PL0.out.step B2.out)
 have P1 := P.out.step bx
 have f0 := P1.fz 0
 have f1 := P1.fz 1
 have f2 := P1.fz 2
 have f3 := P1.fz 3
 have f4 := P1.fz 4
 clear p0 p1 p2 p3 p4
 obtain ⟨p0, p1, p2, p3, p4⟩ := P1.all
 obtain ⟨q0, q1, q2, q3, q4⟩ := PQ.out.all
 dsimp only at q0 q1 q2 q3 q4
 change _ = some (Value.slice A1 n1 c1) at q1
 have l9 : n1 ≤ 100 := by omega
 have M2 := hide hM2
 have MN := hide hM
 have LL := hide hl
 clear kg sc ln bx hn1 P1 P HC hN hn hM hM2 hl PL0
 have BAD : Hid (¬ IsS c.s ∨ tms d1 = [] → ∀ e, e = .returned (.bool false) → AdRet w B g p l c M e (((((w1.setCell ⟨w.heap.size, 0, none⟩ (.int .i64 c.s)).setCell ⟨w.heap.size, 1, none⟩ (.slice A1 n1 c1)).setCell ⟨w.heap.size, 2, none⟩ (.bool y1.s)).setCell ⟨w.heap.size, 3, none⟩ (sv y1.u)).setCell ⟨w.heap.size, 4, none⟩ (sv y1.t))) := hide (fun h e he => ⟨false, (VA, vn, vc), l, ⟨c.s, (A1, n1, c1), d1, y1⟩, he, PL.out, .inl ⟨rfl, rfl, h.imp id .inl⟩, rfl, SC.out, Nat.le_succ _, Below.trans' B2.out HB.out⟩)
 by_cases a1 : c.s < 1
 ·have t1 : decide (c.s < 1) = true := decide_eq_true a1
  have RB := hide (BAD.out (.inl (fun h => by rcases h with h | h | h <;> omega)))
  go_wp2_with fail
  go_ret
  exact RB.out _ rfl
 have t1 : decide (c.s < 1) = false := decide_eq_false a1
 by_cases a2 : 3 < c.s
 ·have t2 : decide (3 < c.s) = true := decide_eq_true a2
  have RB := hide (BAD.out (.inl (fun h => by rcases h with h | h | h <;> omega)))
  go_wp2_with fail
  go_ret
  exact RB.out _ rfl
 have t2 : decide (3 < c.s) = false := decide_eq_false a2
 have IS := hide (show IsS c.s by unfold IsS; omega)
 by_cases h0 : n1 = 0
 ·have t3 : ((n1 : Int) == 0) = true := by rw [h0]; rfl
  have RB := hide (BAD.out (.inr (by
   have e1 : d1.length = 0 := by have := N1.out; omega
   rw [List.length_eq_zero_iff.1 e1]
   rfl)))
  clear h0
  go_wp2_with fail
  go_ret
  exact RB.out _ rfl
 have t3 : ((n1 : Int) == 0) = false := by rw [beq_eq_false_iff_ne]; omega
 have NE := hide (show tms d1 ≠ [] by
  intro e
  have h9 : (tms d1).length = 0 := by rw [e]; rfl
  rw [tms_len] at h9
  have h8 := N1.out
  omega)
 obtain ⟨en1, em1⟩ := lr_nP PL.out.rd
 dsimp only at en1
 have VN := hide en1
 have lv : vn ≤ 1000 := by have := LL.out; omega
 have g1c : (((((w1.setCell ⟨w.heap.size, 0, none⟩ (.int .i64 c.s)).setCell ⟨w.heap.size, 1, none⟩ (.slice A1 n1 c1)).setCell ⟨w.heap.size, 2, none⟩ (.bool y1.s)).setCell ⟨w.heap.size, 3, none⟩ (sv y1.u)).setCell ⟨w.heap.size, 4, none⟩ (sv y1.t)).cell? ⟨g, 1, none⟩ = some (.slice VA vn vc) := PL.out.1.c
 clear BAD en1 em1 h0 a1 a2
 go_wp2_with fail
 clear p0 p1 p2 p3 p4 f0 f1 f2 f3 f4 q0 q1 q2 q3 q4 g1c
 generalize (((((w1.setCell ⟨w.heap.size, 0, none⟩ (.int .i64 c.s)).setCell ⟨w.heap.size, 1, none⟩ (.slice A1 n1 c1)).setCell ⟨w.heap.size, 2, none⟩ (.bool y1.s)).setCell ⟨w.heap.size, 3, none⟩ (sv y1.u)).setCell ⟨w.heap.size, 4, none⟩ (sv y1.t)) = w2 at *
 go_loopw [5, 29] (fun ov iv wr => ∃ (k : Nat) (o : Int), k ≤ vn ∧ iv = .int .i64 (k : Int) ∧ ov = .int .i64 o ∧ Hid (Lsr l (cv ⟨c.s, (A1, n1, c1), d1, y1⟩) k o) ∧ Hid (Below w.heap.size w wr) ∧ Hid (Kq wr w.heap.size ⟨c.s, (A1, n1, c1), d1, y1⟩) ∧ Hid (Kg wr w.heap.size ⟨c.s, (A1, n1, c1), d1, y1⟩ (3 * N)) ∧ Hid (Plo wr B g p (VA, vn, vc) l M)) (fun _ iv _ => vn - (intOf iv).toNat)
 case atStart => exact ⟨0, -1, Nat.zero_le _, rfl, rfl, hide (Lsr.zero l _), B2, PQ, KG, PL⟩
 case round =>
  clear B2 PQ KG PL
  obtain ⟨k, o, hk, rfl, rfl, SR, BL, PQ, KG, PL⟩ := hrel
  by_cases hlt : k < vn
  ·obtain ⟨x, hx⟩ := len_of (d := l) (k := k) (by rw [← VN.out]; exact hlt)
   have HX := hide hx
   obtain ⟨b, off, rfl, hb, hc⟩ := PL.out.rd.get hx
   have cc0 := hc 0 _ rfl
   have cc1 := hc 1 _ rfl
   have cc2 := hc 2 _ rfl
   have cc3 := hc 3 _ rfl
   have cc4 := hc 4 _ rfl
   have cc5 := hc 5 _ rfl
   rw [Nat.add_zero] at cc0
   have b8 := alloc_below wr (cbox x)
   have BL2 := hide (Below.step BL.out BL.out.size b8)
   have PQ2 := hide (PQ.out.step b8)
   have KG2 := hide (KG.out.step b8)
   have PL2 := hide (PL.out.step b8)
   have CQ := hide (Cq.new wr x)
   have KX := hide (PL2.out.2.2.2 x (List.mem_of_getElem? hx))
   obtain ⟨d0', e1', e2', e3', e4', e5'⟩ := CQ.out.all
   obtain ⟨q0, q1, q2, q3, q4⟩ := PQ2.out.all
   dsimp only at q0 q1 q2 q3 q4
   change _ = some (Value.slice A1 n1 c1) at q1
   have l3 : (0 : Int) ≤ (k : Int) := by omega
   have l4 : (k : Int) < (vn : Int) := by omega
   clear hx hc hb b8 BL PQ KG PL
   go_wp2_with fail
   clear cc0 cc1 cc2 cc3 cc4 cc5 d0' e1' e2' e3' e4' e5' q0 q1 q2 q3 q4
   generalize (wr.alloc (cbox x)) = w4 at *
   generalize wr.heap.size = gx at *
   refine (likens_c (x := x) (L := M) (M := 3 * N) KX.out.1.kc.kv KG2.out.1.tv (by have := NN.out; have := MN.out; omega) (by have := M2.out; omega) (by have := M2.out; have := MN.out; omega)).mono ?_
   rintro e w5 ⟨⟨o5, rfl, ho⟩, bx⟩
   have HO := hide ho
   replace BL2 := hide (Below.step BL2.out BL2.out.size bx)
   replace PQ2 := hide (PQ2.out.step bx)
   replace KG2 := hide (KG2.out.step bx)
   replace PL2 := hide (PL2.out.step bx)
   replace CQ := hide (CQ.out.step bx)
   replace KX := hide (PL2.out.2.2.2 x (List.mem_of_getElem? HX.out))
   clear ho bx
   cases o5
   ·have SN := hide (SR.out.next HX.out (fun e => absurd (HO.out.2 e) (by simp)) (.inl ⟨rfl, fun e => absurd (HO.out.2 e.2) (by simp)⟩))
    go_wp2_with fail
    exact ⟨⟨k + 1, o, by omega, by go_num, rfl, SN, BL2, PQ2, KG2, PL2⟩, by simp [intOf]; omega⟩
   have SAME := hide (show tms x.k.d = tms d1 from HO.out.1 rfl)
   obtain ⟨d0', e1', e2', e3', e4', e5'⟩ := CQ.out.all
   obtain ⟨q0, q1, q2, q3, q4⟩ := PQ2.out.all
   dsimp only at q0 q1 q2 q3 q4
   change _ = some (Value.slice A1 n1 c1) at q1
   go_wp2_with fail
   refine (kdom_c (a := x.k) (b := ⟨c.s, (A1, n1, c1), d1, y1⟩) (L := M) (M := 3 * N) KX.out.1.kc.kv KG2.out.kc.kv (by have := KX.out.2; omega) (by have := LN.out; show d1.length ≤ 1000; omega) (by have := NN.out; have := MN.out; omega) (by have := M2.out; omega) (by have := NN.out; omega) (by have := M2.out; have := MN.out; omega)).mono ?_
   rintro e w6 ⟨⟨o6, rfl, ho⟩, bx⟩
   have HD := hide (show o6 = true ↔ Dc (cv x.k) (cv ⟨c.s, (A1, n1, c1), d1, y1⟩) from ho)
   replace BL2 := hide (Below.step BL2.out BL2.out.size bx)
   replace PQ2 := hide (PQ2.out.step bx)
   replace KG2 := hide (KG2.out.step bx)
   replace PL2 := hide (PL2.out.step bx)
   replace CQ := hide (CQ.out.step bx)
   clear ho bx d0' e1' e2' e3' e4' e5' q0 q1 q2 q3 q4 KX
   cases o6
   case true =>
    go_wp2_with fail
    go_ret
    exact ⟨false, _, l, ⟨c.s, (A1, n1, c1), d1, y1⟩, rfl, PL2.out, .inl ⟨rfl, rfl, .inr (.inr ⟨cv x.k, List.mem_of_getElem? (cvs_get HX.out), SAME.out, HD.out.1 (by simp)⟩)⟩, rfl, SC.out, Nat.le_succ _, Below.trans' BL2.out HB.out⟩
   have ND := hide (show ¬ Dc (cv x.k) (cv ⟨c.s, (A1, n1, c1), d1, y1⟩) from fun h => absurd (HD.out.2 h) (by simp))
   obtain ⟨d0', e1', e2', e3', e4', e5'⟩ := CQ.out.all
   obtain ⟨q0, q1, q2, q3, q4⟩ := PQ2.out.all
   dsimp only at q0 q1 q2 q3 q4
   by_cases hs : x.k.s = c.s
   ·have t5 : (x.k.s == c.s) = true := beq_iff_eq.2 hs
    have SN := hide (SR.out.next (o' := (k : Int)) HX.out (fun _ => ND.out) (.inr ⟨rfl, hs, SAME.out⟩))
    clear hs
    go_wp2_with fail
    exact ⟨⟨k + 1, k, by omega, by go_num, rfl, SN, BL2, PQ2, KG2, PL2⟩, by simp [intOf]; omega⟩
   ·have t5 : (x.k.s == c.s) = false := beq_eq_false_iff_ne.2 hs
    have SN := hide (SR.out.next HX.out (fun _ => ND.out) (.inl ⟨rfl, fun e => hs e.1⟩))
    clear hs
    go_wp2_with fail
    exact ⟨⟨k + 1, o, by omega, by go_num, rfl, SN, BL2, PQ2, KG2, PL2⟩, by simp [intOf]; omega⟩
  ·obtain rfl : k = vn := by omega
   rcases id SR.out.2 with ⟨rfl, -⟩ | ⟨j, y, rfl, hj, hy, h3, h4⟩
   ·go_wp2_with fail
    have bd := (Below.refl wr.heap.size wr).drew
    obtain ⟨i0, hi, hz0, hz1, hz2⟩ := info_parts info_ct
    have BV := hide (Below.step BL.out BL.out.size bd)
    have PQV := hide (PQ.out.step bd)
    have KGV := hide ((KG.out.step bd).mono (B' := B) HB.out)
    have PLV := hide (PL.out.step bd)
    have KP := hide (show ∀ V, Below wr.drew.heap.size wr.drew V → _ ∧ _ from fun V h => And.intro (PLV.out.step h).1.c (PQV.out.step h).all)
    have LLEN := hide (show l.length + 1 ≤ 1000000000000 by have := LL.out; omega)
    clear bd BL PQ KG PL
    refine wp_till (S := fun W => W.cell? ⟨g, 1, none⟩ = some (.slice VA k vc) ∧ W.cell? ⟨w.heap.size, 0, none⟩ = some (.int .i64 c.s) ∧ W.cell? ⟨w.heap.size, 1, none⟩ = some (.slice A1 n1 c1) ∧ W.cell? ⟨w.heap.size, 2, none⟩ = some (.bool y1.s) ∧ W.cell? ⟨w.heap.size, 3, none⟩ = some (sv y1.u) ∧ W.cell? ⟨w.heap.size, 4, none⟩ = some (sv y1.t)) 9 (by kernel_rfl) ?_ (fun hHeld => ?_)
    ·try dsimp only
     exact KP.out _ (Below.refl _ _)
    generalize wr.drew = V0 at *
    refine tpT 0 hHeld ?_
    try simp only [Act.put, s1, s2, s3, s4, s5, s6]
    refine tpT 1 hHeld ?_
    try simp only [Act.put, s1, s2, s3, s4, s5, s6]
    refine tkT 2 (v := ?_) hHeld ?_ ?_; rotate_left; (focus (intro w hSw; (try dsimp only at hSw); go_simp; (try with_reducible rfl)))
    try simp only [Act.put, s1, s2, s3, s4, s5, s6]
    refine tkT 3 (v := ?_) hHeld ?_ ?_; rotate_left; (focus (intro w hSw; (try dsimp only at hSw); go_simp; (try with_reducible rfl)))
    try simp only [Act.put, s1, s2, s3, s4, s5, s6]
    refine tkT 4 (v := ?_) hHeld ?_ ?_; rotate_left; (focus (intro w hSw; (try dsimp only at hSw); go_simp; (try with_reducible rfl)))
    try simp only [Act.put, s1, s2, s3, s4, s5, s6]
    refine tkT 5 (v := ?_) hHeld ?_ ?_; rotate_left; (focus (intro w hSw; (try dsimp only at hSw); go_simp; (try with_reducible rfl)))
    try simp only [Act.put, s1, s2, s3, s4, s5, s6]
    refine tkT 6 (v := ?_) hHeld ?_ ?_; rotate_left; (focus (intro w hSw; (try dsimp only at hSw); go_simp; (try with_reducible rfl)))
    try simp only [Act.put, s1, s2, s3, s4, s5, s6]
    refine r1T 7 (fun K hK => ?_)
    go_simp; have bx := alloc_below V0 (.cells #[.int .i64 c.s, .slice A1 n1 c1, .bool y1.s, sv y1.u, sv y1.t, .int .i64 0] 79); have KX := hide ((KGV.out.step bx)); (try dsimp only); refine hK.out _ _ ?_ (fun hHeld => ?_); (focus ((try dsimp only); exact KP.out _ bx)); clear hK K
    try simp only [Act.put, s1, s2, s3, s4, s5, s6]
    try simp only [Act.put, s1, s2, s3, s4, s5, s6]
    refine r1T 8 (fun K hK => ?_)
    refine step_pushE rfl (.tmp 57) (.tmp 60) 75 rfl Tryz.underlying75 hi hz0 hz1 hz2 rfl (by omega) ec_len ec_one V0 B _ l ⟨⟨c.s, (A1, n1, c1), d1, y1⟩, 0⟩ _ rfl PLV.out.2.2.1 rfl rfl LLEN.out (by decide) (Nat.le_trans HB.out BV.out.size) ?_; intro v9 V2 ho hg; obtain ⟨A9, n9, c9, rfl⟩ := rv_sl (ho.rl ec_len); obtain ⟨QN, PN⟩ := PLV.out.grow (v' := (A9, n9, c9)) (x := ⟨⟨c.s, (A1, n1, c1), d1, y1⟩, 0⟩) (⟨KGV.out.1.more MN.out, KGV.out.2.1.more MN.out, KGV.out.2.2⟩) LN.out ho hg.1; replace QN := hide QN; replace PN := hide PN; have BN := hide ((Below.trans' BV.out HB.out).grown hg.1 (Nat.le_trans HB.out BV.out.size) (fun g hg => (PLV.out.2.2.1.lt hg).1)); have QK := hide ((hg.1.block w.heap.size PQV.out.lt (fun e => ow_kq PLV.out.2.2.1 PQV.out e.symm)).trans PQV.out); clear ho hg bx; (try dsimp only); refine hK.out _ _ ?_ (fun hHeld => ?_); (focus ((try dsimp only); exact And.intro QN.out.c (show Kq _ w.heap.size ⟨c.s, (A1, n1, c1), d1, y1⟩ from QK.out).all)); clear hK K
    try simp only [Act.put, s1, s2, s3, s4, s5, s6]
    try simp only [Act.put, s1, s2, s3, s4, s5, s6]
    refine r1S 9 (fun K hK => ?_)
    go_simp; (try dsimp only); refine hK.out _ _ ?_; clear hK K
    try simp only [Act.put, s1, s2, s3, s4, s5, s6]
    try simp only [Act.put, s1, s2, s3, s4, s5, s6]
    refine r1S 10 (fun K hK => ?_)
    go_simp; (try dsimp only); refine hK.out _ _ ?_; clear hK K
    try simp only [Act.put, s1, s2, s3, s4, s5, s6]
    try simp only [Act.put, s1, s2, s3, s4, s5, s6]
    refine r1S 11 (fun K hK => ?_)
    have s1 := QN.out.c; have f1 := QN.out.fz 1; have BN2 := hide (BN.out.setCell (p := ⟨g, 1, none⟩) PLV.out.2.1 (.slice A9 n9 c9)); go_simp; clear s1 f1; (try dsimp only); refine hK.out _ _ ?_; clear hK K
    try simp only [Act.put, s1, s2, s3, s4, s5, s6]
    refine Till.done (by kernel_rfl) ?_ _
    go_wp2_with fail
    go_ret
    exact ⟨true, (A9, n9, c9), l ++ [⟨⟨c.s, (A1, n1, c1), d1, y1⟩, 0⟩], ⟨c.s, (A1, n1, c1), d1, y1⟩, rfl, PN.out, SR.out.add (by have := VN.out; omega) rfl IS.out NE.out, rfl, SC.out, by simp, BN2.out⟩
   ·have t5 : decide ((j : Int) < 0) = false := decide_eq_false (by omega)
    have HY := hide hy
    have H3 := hide h3
    have H4 := hide h4
    have HJ := hide hj
    clear hy h3 h4
    go_wp2_with fail
    obtain ⟨a, cap, cu, eA, hB9, hlt9, hh9, -⟩ : ∃ a cap cu, sv (VA, k, vc) = .slice (some ⟨a, 0, none⟩) l.length cap ∧ B ≤ a ∧ _ ∧ _ ∧ _ := by
     rcases PL.out.2.2.1.form with ⟨e, h⟩ | h
     ·have := HY.out
      subst h
      simp at this
     ·exact h
    injection eA with eA eB eC
    subst eA
    have GA := hide hB9
    clear hB9 hlt9 hh9 eB eC
    have l3 : (0 : Int) ≤ (j : Int) := by omega
    have l4 : (j : Int) < (k : Int) := by have := HJ.out; omega
    have bd := (Below.refl wr.heap.size wr).drew
    obtain ⟨i0, hi, hz0, hz1, hz2⟩ := info_parts info_ct
    have BV := hide (Below.step BL.out BL.out.size bd)
    have PQV := hide (PQ.out.step bd)
    have KGV := hide ((KG.out.step bd).mono (B' := B) HB.out)
    have PLV := hide (PL.out.step bd)
    have KP := hide (show ∀ V, Below wr.drew.heap.size wr.drew V → _ ∧ _ from fun V h => And.intro (PLV.out.step h).1.c (PQV.out.step h).all)
    have LLEN := hide (show l.length + 1 ≤ 1000000000000 by have := LL.out; omega)
    clear bd BL PQ KG PL
    refine wp_till (S := fun W => W.cell? ⟨g, 1, none⟩ = some (.slice (some ⟨a, 0, none⟩) k vc) ∧ W.cell? ⟨w.heap.size, 0, none⟩ = some (.int .i64 c.s) ∧ W.cell? ⟨w.heap.size, 1, none⟩ = some (.slice A1 n1 c1) ∧ W.cell? ⟨w.heap.size, 2, none⟩ = some (.bool y1.s) ∧ W.cell? ⟨w.heap.size, 3, none⟩ = some (sv y1.u) ∧ W.cell? ⟨w.heap.size, 4, none⟩ = some (sv y1.t)) 8 (by kernel_rfl) ?_ (fun hHeld => ?_)
    ·try dsimp only
     exact KP.out _ (Below.refl _ _)
    generalize wr.drew = V0 at *
    refine tpT 0 hHeld ?_
    try simp only [Act.put, s1, s2, s3, s4, s5, s6]
    refine tkT 1 (v := ?_) hHeld ?_ ?_; rotate_left; (focus (intro w hSw; (try dsimp only at hSw); go_simp; (try with_reducible rfl)))
    try simp only [Act.put, s1, s2, s3, s4, s5, s6]
    refine tkT 2 (v := ?_) hHeld ?_ ?_; rotate_left; (focus (intro w hSw; (try dsimp only at hSw); go_simp; (try with_reducible rfl)))
    try simp only [Act.put, s1, s2, s3, s4, s5, s6]
    refine tkT 3 (v := ?_) hHeld ?_ ?_; rotate_left; (focus (intro w hSw; (try dsimp only at hSw); go_simp; (try with_reducible rfl)))
    try simp only [Act.put, s1, s2, s3, s4, s5, s6]
    refine tpT 4 hHeld ?_
    try simp only [Act.put, s1, s2, s3, s4, s5, s6]
    refine tkT 5 (v := ?_) hHeld ?_ ?_; rotate_left; (focus (intro w hSw; (try dsimp only at hSw); go_simp; (try with_reducible rfl)))
    try simp only [Act.put, s1, s2, s3, s4, s5, s6]
    refine tkT 6 (v := ?_) hHeld ?_ ?_; rotate_left; (focus (intro w hSw; (try dsimp only at hSw); go_simp; (try with_reducible rfl)))
    try simp only [Act.put, s1, s2, s3, s4, s5, s6]
    refine tkT 7 (v := ?_) hHeld ?_ ?_; rotate_left; (focus (intro w hSw; (try dsimp only at hSw); go_simp; (try with_reducible rfl)))
    try simp only [Act.put, s1, s2, s3, s4, s5, s6]
    refine r1S 8 (fun K hK => ?_)
    have PLs := PLV.out; obtain ⟨s0, s1, s2, s3, s4, s5⟩ := PLs.2.2.1.cellsC HY.out; have f0 := PLs.2.2.1.frozen rfl (j * 6); have f1 := PLs.2.2.1.frozen rfl (j * 6 + 1); have f2 := PLs.2.2.1.frozen rfl (j * 6 + 2); have f3 := PLs.2.2.1.frozen rfl (j * 6 + 3); have f4 := PLs.2.2.1.frozen rfl (j * 6 + 4); have f5 := PLs.2.2.1.frozen rfl (j * 6 + 5); have PN := hide (PLs.putc (x := ⟨⟨c.s, (A1, n1, c1), d1, y1⟩, 0⟩) HY.out (⟨KGV.out.1.more MN.out, KGV.out.2.1.more MN.out, KGV.out.2.2⟩) LN.out); have BN := hide (below_put6 (Below.trans' BV.out HB.out) GA.out (j * 6) (⟨⟨c.s, (A1, n1, c1), d1, y1⟩, 0⟩ : Cx)); clear PLs; go_simp; clear s0 s1 s2 s3 s4 s5 f0 f1 f2 f3 f4 f5; (try dsimp only); refine hK.out _ _ ?_; clear hK K
    try simp only [Act.put, s1, s2, s3, s4, s5, s6]
    refine Till.done (by kernel_rfl) ?_ _
    go_wp2_with fail
    go_ret
    exact ⟨true, (some ⟨a, 0, none⟩, k, vc), l.set j ⟨⟨c.s, (A1, n1, c1), d1, y1⟩, 0⟩, ⟨c.s, (A1, n1, c1), d1, y1⟩, rfl, PN.out, SR.out.set (by have := VN.out; omega) HY.out H3.out H4.out rfl IS.out NE.out, rfl, SC.out, by simp, BN.out⟩
end Go.Proofs.YtofmhfbbedalbaaGreat
