
/-
 The walk of QueuePrunes: true.
-/
import Derived.Test.YtepaamclfdadnaaGreatQu11
import Derived.Test.YtepaamclfdadnaaGreatQu8
import Derived.Test.YtepaamclfdadnaaGreatOpenN
import Derived.Test.YtepaamclfdadnaaGreatBundleN
import Derived.Test.YtepaamclfdadnaaGreatBundleO
import Derived.Test.YtepaamclfdadnaaGreatBundleH
import Derived.Deep.DeepCutAuto
import Derived.BigRegion
import Derived.Deep.RegionHeld3


namespace Go.Proofs.YtepaamclfdadnaaGreat
open Go.RowKit Go.Proofs.YtepaamclfdadnaaGreat.Num
set_option linter.unusedVariables false
set_option linter.unusedSimpArgs false
set_option maxRecDepth 100000
def Prk (l : List Nx) (q : Rat) (k s : Nat) : Prop := l.length = k ∧ (keep q l).length = s
theorem Prk.push {l l' : List Nx} {n : Nx} {q : Rat} {k s : Nat} (h : Prk l q k s) (hp : l'.Perm (n :: l)) : (n.x.r < q → Prk l' q (k + 1) (s + 1)) ∧ (¬ n.x.r < q → Prk l' q (k + 1) s) := by
 have h1 : l'.length = k + 1 := by rw [hp.length_eq, List.length_cons, h.1]
 have h2 : (keep q l').length = (keep q (n :: l)).length := (hp.filter _).length_eq
 refine ⟨fun hl => ⟨h1, ?_⟩, fun hl => ⟨h1, ?_⟩⟩
 ·rw [h2, ← h.2]; unfold keep; rw [List.filter_cons]; simp [hl]
 ·rw [h2, ← h.2]; unfold keep; rw [List.filter_cons]; simp [hl]
theorem gone_keep (q : Rat) (l : List Nx) : (gone q l).length + (keep q l).length = l.length := by
 induction l with
 | nil => rfl
 | cons a r ih =>
  unfold gone keep at *
  rw [List.filter_cons, List.filter_cons]
  by_cases h : a.x.r < q
  ·simp [h]; simp at ih; omega
  ·simp [h]; simp at ih; omega
theorem gone_none {q : Rat} {l l' : List Nx} (hp : l'.Perm (keep q l)) : (gone q l').length = 0 := by
 have : gone q l' = [] := by
  unfold gone
  rw [List.map_eq_nil_iff, List.filter_eq_nil_iff]
  intro x hx
  have := hp.mem_iff.1 hx
  unfold keep at this
  simp at this
  simp [this.2]
 rw [this]; rfl
theorem cmp_three (a b : Rat) : (a < b ∧ cmpR a b = -1) ∨ (¬ a < b ∧ cmpR a b = 0) ∨ (¬ a < b ∧ cmpR a b = 1) := by
 unfold cmpR
 by_cases h : a < b
 ·exact .inl ⟨h, if_pos h⟩
 ·rw [if_neg h]
  split
  ·exact .inr (.inr ⟨h, rfl⟩)
  ·exact .inr (.inl ⟨h, rfl⟩)
theorem srt_len (l : List Int) : (srt l).length = l.length := by simp
set_option maxHeartbeats 16000000 in
theorem quprunes_go2 (w : World) (z : Int) (v : Value) (d : List Nx) (q : Rx) (hz : (Lit.int .i64 z).wf = true) (hv : Nlv w v d) (hx : Ra w (rx q) q.r 17592186043904) :
  Calls Tryz.prog 4 #[.int .i64 z, v, rx q] w fun e w' => e = .returned (.bool true) ∧ Below w.heap.size w w' := by
 obtain ⟨LA, ln, lc, rfl⟩ := rv_sl hv.1
 have LN := hide ((lr_nQ hv.1).1)
 have L9 := hide (show ln ≤ 1954687338211 by have := (lr_nQ hv.1).1; have := hv.2.1; omega)
 have b0 := bal1 w (rbox q.s (sv q.u) (sv q.t))
 have P := hide (Bq.new w q.s (sv q.u) (sv q.t))
 have H := hide (hx.step b0)
 have V := hide (hv.step b0)
 have B := hide b0
 clear hx hv b0
 go_enter Tryz.func4, Tryz.ntmps4
 go_wp2_with fail
 generalize (w.alloc (rbox q.s (sv q.u) (sv q.t))) = w0 at *
 refine (quspeaks_true w0).mono ?_
 rintro e w1 ⟨rfl, bx⟩
 replace P := hide (P.out.step bx)
 replace H := hide (H.out.step bx)
 replace V := hide (V.out.step bx)
 replace B := hide (Below.step B.out B.out.size bx)
 clear bx
 by_cases hz2 : z = 0 ∨ z = 1
 case neg =>
  have hz0 : z ≠ 0 := fun h => hz2 (.inl h)
  have hz1 : z ≠ 1 := fun h => hz2 (.inr h)
  have t2 : (z != 0) = true := by simp [hz0]
  have t3 : (z != 1) = true := by simp [hz1]
  clear hz2
  go_wp2_with fail
  refine (qnewx_c w1 z hz0 hz1).mono ?_
  rintro e w3 ⟨rfl, bx⟩
  replace B := hide (Below.step B.out B.out.size bx)
  clear bx
  go_wp2_with fail
  go_ret
  exact ⟨rfl, B.out⟩
 case pos =>
  have KP := hide (show ∀ W, Below w1.heap.size w1 W → Bq W w.heap.size q.s (sv q.u) (sv q.t) ∧ Nlv W (.slice LA ln lc) d ∧ Ra W (rx q) q.r 17592186043904 ∧ Below w.heap.size w W from fun W h => ⟨P.out.step h, V.out.step h, H.out.step h, Below.step B.out B.out.size h⟩)
  clear P H V B
  go_wp2_with fail
  refine (qnew_c w1 z hz2).mono ?_
  rintro e w2 ⟨g, rfl, q1, b1⟩
  have QO := hide q1
  have BL := hide b1
  clear q1 b1 hz2
  have K := KP.out _ BL.out
  have B1 := hide K.2.2.2
  have H := hide K.2.2.1
  obtain ⟨p0, p1, p2⟩ := bqt K.1
  clear K
  go_wp2_with fail
  refine (words_x H.out (by omega)).mono ?_
  rintro e w3 ⟨rfl, bx⟩
  replace QO := hide (QO.out.step bx)
  replace BL := hide (Below.step BL.out BL.out.size bx)
  clear bx p0 p1 p2 H B1
  obtain ⟨m, hm⟩ : ∃ m, m = q.u.2.1 + q.t.2.1 := ⟨_, rfl⟩
  rw [← hm]
  have HM := hide hm
  clear hm
  by_cases h6 : 6 < m
  ·have t1 : decide ((6 : Int) < (m : Int)) = true := decide_eq_true (by omega)
   have B1 := hide (KP.out _ BL.out).2.2.2
   go_wp2_with fail
   go_ret
   exact ⟨rfl, B1.out⟩
  ·have t1 : decide ((6 : Int) < (m : Int)) = false := decide_eq_false (by omega)
   have HR := hide (show ∀ W, Below w1.heap.size w1 W → Ra W (rx q) q.r 6 from fun W h => ((KP.out _ h).2.2.1.tight (M := 6) (by have := HM.out; omega) (by have := HM.out; omega)))
   clear h6 HM
   go_wp2_with fail
   go_loopw [9, 36] (fun sv0 iv wr => ∃ (k s : Nat) (l : List Nx) (vq : Sl), k ≤ ln ∧ iv = .int .i64 (k : Int) ∧ sv0 = .int .i64 (s : Int) ∧ Hid (Below w1.heap.size w1 wr) ∧ Hid (Qo wr w1.heap.size g z vq l 6) ∧ Hid (Prk l q.r k s)) (fun _ iv _ => ln - (intOf iv).toNat)
   case atStart => exact ⟨0, 0, [], (none, 0, 0), Nat.zero_le _, rfl, rfl, BL, QO, hide ⟨rfl, rfl⟩⟩
   case round =>
    clear BL QO
    obtain ⟨k, s, l, vq, hk, rfl, rfl, BL, QO, PK⟩ := hrel
    by_cases hlt : k < ln
    ·have l1 : (0 : Int) ≤ (k : Int) := by omega
     have l2 : (k : Int) < (ln : Int) := by omega
     obtain ⟨x, hx⟩ := len_of (d := d) (k := k) (by have := LN.out; omega)
     have HX := hide (List.mem_of_getElem? hx)
     have K := KP.out _ BL.out
     obtain ⟨b1, off1, e1, hb1, hc1⟩ := K.2.1.1.get hx
     subst e1
     have x0 := hc1 0 _ rfl
     have x1 := hc1 1 _ rfl
     have x2 := hc1 2 _ rfl
     have x3 := hc1 3 _ rfl
     have x4 := hc1 4 _ rfl
     rw [Nat.add_zero] at x0
     have bn := bal1 wr (nbox x)
     have NX := hide (Nq.new wr x)
     have SX := hide (show g < wr.heap.size ∧ (∀ b, (sv vq).ownBlock = some b → b < wr.heap.size) from ⟨QO.out.1.lt, fun b e => (QO.out.2.2.1.lt e).2⟩)
     replace QO := hide (QO.out.step bn)
     replace BL := hide (Below.step BL.out BL.out.size bn)
     clear bn K hb1 hc1 hx
     obtain ⟨y0, y1, y2, y3, y4⟩ := NX.out.all
     go_wp2_with fail
     generalize hW : (wr.alloc (nbox x)) = w4 at *
     have GX := hide (show wr.heap.size < w4.heap.size by rw [← hW]; simp)
     clear hW
     generalize hgx : wr.heap.size = gx at *
     clear hgx
     refine (words_x ((KP.out _ BL.out).2.1.2.2 x HX.out) (by omega)).mono ?_
     rintro e w5 ⟨rfl, bx⟩
     replace QO := hide (QO.out.step bx)
     replace NX := hide (NX.out.step bx)
     replace BL := hide (Below.step BL.out BL.out.size bx)
     clear bx y0 y1 y2 y3 y4 x0 x1 x2 x3 x4
     obtain ⟨mx, hm⟩ : ∃ m, m = x.x.u.2.1 + x.x.t.2.1 := ⟨_, rfl⟩
     rw [← hm]
     have HM := hide hm
     clear hm
     by_cases h6 : 6 < mx
     ·have t2 : decide ((6 : Int) < (mx : Int)) = true := decide_eq_true (by omega)
      have B1 := hide (KP.out _ BL.out).2.2.2
      go_wp2_with fail
      go_ret
      exact ⟨rfl, B1.out⟩
     ·have t2 : decide ((6 : Int) < (mx : Int)) = false := decide_eq_false (by omega)
      have KX := hide (show ∀ W, Below w1.heap.size w1 W → Ra W (rx x.x) x.x.r 6 from fun W h => (((KP.out _ h).2.1.2.2 x HX.out).tight (M := 6) (by have := HM.out; omega) (by have := HM.out; omega)))
      clear h6 HM
      obtain ⟨y0, y1, y2, y3, y4⟩ := NX.out.all
      have hs : s ≤ k := by have := keep_len q.r l; have := PK.out.1; have := PK.out.2; omega
      have hk9 : k ≤ 1954687338211 := by have := L9.out; omega
      have LK := hide (show l.length + 1 ≤ 1954687338211 by have := PK.out.1; have := L9.out; omega)
      go_wp2_with fail
      refine (qpush_c (n := x) QO.out (KX.out _ BL.out) LK.out (by omega) (by omega)).mono ?_
      rintro e w6 ⟨rfl, v6, l6, z6, ez, rz, q6, p6, h6, ef⟩
      replace NX := hide (show Nq w6 gx x from (ef.2.1 gx NX.out.lt (by have := SX.out.1; omega) (fun e => by have := SX.out.2 _ e; omega)).trans NX.out)
      have PP := hide (PK.out.push p6)
      rw [show ((⟨x.id, x.dp, z6⟩ : Nx).x.r) = x.x.r from ez] at PP
      replace QO := hide q6
      replace BL := hide (BL.out.trans ef.1)
      clear q6 p6 h6 ef ez rz y0 y1 y2 y3 y4 SX GX PK LK
      have D := hide (Below.refl w6.heap.size w6).drew
      replace NX := hide (NX.out.step D.out)
      replace QO := hide (QO.out.step D.out)
      replace BL := hide (Below.step BL.out BL.out.size D.out)
      have CX := hide (show ∀ W, Below w6.drew.heap.size w6.drew W → (W.cell? ⟨gx, 0, none⟩ = some (.int .i64 x.id) ∧ W.cell? ⟨gx, 1, none⟩ = some (.int .i64 x.dp) ∧ W.cell? ⟨gx, 2, none⟩ = some (.bool x.x.s) ∧ W.cell? ⟨gx, 3, none⟩ = some (sv x.x.u) ∧ W.cell? ⟨gx, 4, none⟩ = some (sv x.x.t)) ∧ (W.cell? ⟨w.heap.size, 0, none⟩ = some (.bool q.s) ∧ W.cell? ⟨w.heap.size, 1, none⟩ = some (sv q.u) ∧ W.cell? ⟨w.heap.size, 2, none⟩ = some (sv q.t)) ∧ Ra W (rx x.x) x.x.r 6 ∧ Ra W (rx q) q.r 6 from fun W h => ⟨(NX.out.step h).all, bqt (KP.out _ (Below.step BL.out BL.out.size h)).1, KX.out _ (Below.step BL.out BL.out.size h), HR.out _ (Below.step BL.out BL.out.size h)⟩)
      have B6 := hide (Below.refl w6.drew.heap.size w6.drew)
      clear D
      go_wp2_with fail
      go_region_held3 (fun W => (W.cell? ⟨gx, 0, none⟩ = some (.int .i64 x.id) ∧ W.cell? ⟨gx, 1, none⟩ = some (.int .i64 x.dp) ∧ W.cell? ⟨gx, 2, none⟩ = some (.bool x.x.s) ∧ W.cell? ⟨gx, 3, none⟩ = some (sv x.x.u) ∧ W.cell? ⟨gx, 4, none⟩ = some (sv x.x.t)) ∧ (W.cell? ⟨w.heap.size, 0, none⟩ = some (.bool q.s) ∧ W.cell? ⟨w.heap.size, 1, none⟩ = some (sv q.u) ∧ W.cell? ⟨w.heap.size, 2, none⟩ = some (sv q.t)))
       (with_reducible exact ⟨(CX.out _ B6.out).1, (CX.out _ B6.out).2.1⟩)
       (first
        | (go_at_call 23; refine Calls.mono (rof_f (L := 6) (CX.out _ B6.out).2.2.1 (by omega) (by omega)) ?_; rintro e wx ⟨ya, rfl, ha, ra, bx⟩; have HA := hide ha; have RA := hide ra; replace B6 := hide (Below.step1 B6.out bx); clear bx ha ra)
        | (go_at_call 23; refine Calls.mono (rof_f (L := 6) (CX.out _ B6.out).2.2.2 (by omega) (by omega)) ?_; rintro e wx ⟨yb, rfl, hb, rb, bx⟩; have HBq := hide hb; have RBq := hide rb; replace RA := hide (RA.out.step bx); replace B6 := hide (Below.step1 B6.out bx); clear bx hb rb)
        | (go_at_call 22; refine Calls.mono (rqcmp_s (L := 30) RA.out RBq.out (by omega) (by omega)) ?_; rintro e wx ⟨rfl, bx⟩; replace B6 := hide (Below.step1 B6.out bx); clear bx))
      all_goals
       rw [HA.out, HBq.out]
       replace QO := hide (QO.out.step B6.out)
       replace BL := hide (Below.step BL.out BL.out.size B6.out)
       rcases cmp_three x.x.r q.r with ⟨hc, ec⟩ | ⟨hc, ec⟩ | ⟨hc, ec⟩
       ·rw [ec]
        have PF := hide (PP.out.1 hc)
        go_wp2_with fail
        exact ⟨⟨k + 1, s + 1, l6, v6, by omega, by go_num, by go_num, BL, QO, PF⟩, by simp [intOf]; omega⟩
       ·rw [ec]
        have PF := hide (PP.out.2 hc)
        go_wp2_with fail
        exact ⟨⟨k + 1, s, l6, v6, by omega, by go_num, rfl, BL, QO, PF⟩, by simp [intOf]; omega⟩
       ·rw [ec]
        have PF := hide (PP.out.2 hc)
        go_wp2_with fail
        exact ⟨⟨k + 1, s, l6, v6, by omega, by go_num, rfl, BL, QO, PF⟩, by simp [intOf]; omega⟩
    ·have hkn : k = ln := by omega
     subst hkn
     have PK1 := hide PK.out.1
     have PK2 := hide PK.out.2
     have hs : s ≤ k := by have := keep_len q.r l; have := PK.out.1; have := PK.out.2; omega
     have hk9 : k ≤ 1954687338211 := by have := L9.out; omega
     obtain ⟨r, hr⟩ : ∃ r, r = k - s := ⟨_, rfl⟩
     have RR := hide hr
     have e1 : IntKind.i64.wrap ((k : Int) - (s : Int)) = (r : Int) := by rw [IntWalk.i64_in _ (by omega)]; omega
     have NL := hide (show l.length ≤ 1954687338211 by rw [PK1.out]; exact hk9)
     clear hr
     obtain ⟨p0, p1, p2⟩ := bqt (KP.out _ BL.out).1
     go_wp2_with fail
     refine (qprune_c QO.out (fun W h => HR.out _ (BL.out.trans h)) NL.out (by omega) (by omega)).mono ?_
     rintro e w5 ⟨out, v5, l5, rfl, o5, q5, p5, h5, ef⟩
     obtain ⟨OA, on, oc, rfl⟩ := rv_sl (o5.rl eiq_len)
     have hon : on = r := by have h1 := (lr_nQ (o5.rl eiq_len)).1; rw [srt_len] at h1; have h2 := gone_keep q.r l; have := PK1.out; have := PK2.out; have := RR.out; omega
     subst hon
     replace QO := hide q5
     replace BL := hide (BL.out.trans ef.1)
     have L5 := hide (show l5.length = s by rw [p5.length_eq]; exact PK2.out)
     have G5 := hide (gone_none p5)
     have Y5 := hide (show ∀ x ∈ l5, x.x.r < q.r from fun x hx => by have := p5.mem_iff.1 hx; unfold keep at this; simp at this; exact this.2)
     clear o5 q5 p5 h5 ef p0 p1 p2 NL PK PK1 PK2 RR
     go_wp2_with fail
     refine (qlen_c QO.out).mono ?_
     rintro e w6 ⟨rfl, bx⟩
     rw [L5.out]
     replace QO := hide (QO.out.step bx)
     replace BL := hide (Below.step BL.out BL.out.size bx)
     clear bx
     obtain ⟨p0, p1, p2⟩ := bqt (KP.out _ BL.out).1
     go_wp2_with fail
     refine (qprune_c QO.out (fun W h => HR.out _ (BL.out.trans h)) (by rw [L5.out]; omega) (by omega) (by omega)).mono ?_
     rintro e w7 ⟨out, v7, l7, rfl, o7, q7, p7, h7, ef⟩
     obtain ⟨OB, on2, od, rfl⟩ := rv_sl (o7.rl eiq_len)
     have hon2 : on2 = 0 := by have h1 := (lr_nQ (o7.rl eiq_len)).1; rw [srt_len] at h1; have := G5.out; omega
     subst hon2
     have p8 : l7.Perm l5 := p7.trans (by rw [show keep q.r l5 = l5 from List.filter_eq_self.2 (fun x hx => by simpa using Y5.out x hx)])
     replace QO := hide q7
     replace BL := hide (BL.out.trans ef.1)
     have L7 := hide (show l7.length = s by rw [p8.length_eq]; exact L5.out)
     have Y7 := hide (show ∀ x ∈ l7, x.x.r < q.r from fun x hx => Y5.out x (p8.mem_iff.1 hx))
     clear o7 q7 p7 h7 ef p0 p1 p2 p8 L5 G5 Y5
     go_wp2_with fail
     go_loopw [13] (fun iv wx => ∃ (j r2 : Nat) (l1 : List Nx) (v1 : Sl), j ≤ s ∧ s = j + r2 ∧ iv = .int .i64 (j : Int) ∧ Hid (Below w1.heap.size w1 wx) ∧ Hid (Qo wx w1.heap.size g z v1 l1 6) ∧ Hid (l1.length = r2) ∧ Hid (∀ x ∈ l1, x.x.r < q.r)) (fun iv _ => s - (intOf iv).toNat)
     case atStart => exact ⟨0, s, l7, v7, Nat.zero_le _, by omega, rfl, BL, QO, L7, Y7⟩
     case round =>
      clear BL QO L7 Y7
      obtain ⟨j, r2, l1, v1, hj, hjr, rfl, BL, QO, L1, Y1⟩ := hrel
      rcases Nat.eq_zero_or_pos r2 with h0 | hpos
      ·subst h0
       have hjs : j = s := by omega
       subst hjs
       have B1 := hide (KP.out _ BL.out).2.2.2
       clear hjr
       go_wp2_with fail
       refine (qlen_c QO.out).mono ?_
       rintro e wy ⟨rfl, bx⟩
       rw [L1.out]
       replace B1 := hide (Below.step B1.out B1.out.size bx)
       clear bx
       go_wp2_with fail
       go_ret
       exact ⟨rfl, B1.out⟩
      ·obtain ⟨r3, rfl⟩ : ∃ r3, r2 = r3 + 1 := ⟨r2 - 1, by omega⟩
       have l1' : (j : Int) < (s : Int) := by omega
       have l2' : j < s := by omega
       have HJ := hide hjr
       clear hpos hjr
       go_wp2_with fail
       refine (qpop_c (n := r3) QO.out L1.out (by have := HJ.out; rw [L1.out]; omega) (by omega) (by omega)).mono ?_
       rintro e wy ⟨x, v2, l2, h0, rfl, q2, p2, h2, rx2, ef⟩
       have HX := hide (Y1.out x (List.mem_of_getElem? h0))
       have Y2 := hide (show ∀ y ∈ l2, y.x.r < q.r from fun y hy => Y1.out y (p2.mem_iff.1 (List.mem_cons_of_mem _ hy)))
       have L2 := hide (show l2.length = r3 by have := p2.length_eq; rw [L1.out] at this; simpa using this)
       have bn := bal1 wy (nbox x)
       have NX := hide (Nq.new wy x)
       have RX := hide (rx2.ra.step bn)
       replace QO := hide (q2.step bn)
       have BM := BL.out.trans ef.1
       replace BL := hide (Below.step BM BM.size bn)
       clear h0 q2 p2 h2 rx2 ef BM bn L1 Y1
       go_wp2_with fail
       generalize (wy.alloc (nbox x)) = w8 at *
       generalize wy.heap.size = gx at *
       have D := hide (Below.refl w8.heap.size w8).drew
       replace NX := hide (NX.out.step D.out)
       replace QO := hide (QO.out.step D.out)
       replace RX := hide (RX.out.step D.out)
       replace BL := hide (Below.step BL.out BL.out.size D.out)
       have CX := hide (show ∀ W, Below w8.drew.heap.size w8.drew W → (W.cell? ⟨gx, 0, none⟩ = some (.int .i64 x.id) ∧ W.cell? ⟨gx, 1, none⟩ = some (.int .i64 x.dp) ∧ W.cell? ⟨gx, 2, none⟩ = some (.bool x.x.s) ∧ W.cell? ⟨gx, 3, none⟩ = some (sv x.x.u) ∧ W.cell? ⟨gx, 4, none⟩ = some (sv x.x.t)) ∧ (W.cell? ⟨w.heap.size, 0, none⟩ = some (.bool q.s) ∧ W.cell? ⟨w.heap.size, 1, none⟩ = some (sv q.u) ∧ W.cell? ⟨w.heap.size, 2, none⟩ = some (sv q.t)) ∧ Ra W (rx x.x) x.x.r 6 ∧ Ra W (rx q) q.r 6 from fun W h => ⟨(NX.out.step h).all, bqt (KP.out _ (Below.step BL.out BL.out.size h)).1, RX.out.step h, HR.out _ (Below.step BL.out BL.out.size h)⟩)
       have B6 := hide (Below.refl w8.drew.heap.size w8.drew)
       clear D
       go_region_held3 (fun W => (W.cell? ⟨gx, 0, none⟩ = some (.int .i64 x.id) ∧ W.cell? ⟨gx, 1, none⟩ = some (.int .i64 x.dp) ∧ W.cell? ⟨gx, 2, none⟩ = some (.bool x.x.s) ∧ W.cell? ⟨gx, 3, none⟩ = some (sv x.x.u) ∧ W.cell? ⟨gx, 4, none⟩ = some (sv x.x.t)) ∧ (W.cell? ⟨w.heap.size, 0, none⟩ = some (.bool q.s) ∧ W.cell? ⟨w.heap.size, 1, none⟩ = some (sv q.u) ∧ W.cell? ⟨w.heap.size, 2, none⟩ = some (sv q.t)))
        (with_reducible exact ⟨(CX.out _ B6.out).1, (CX.out _ B6.out).2.1⟩)
        (first
         | (go_at_call 23; refine Calls.mono (rof_f (L := 6) (CX.out _ B6.out).2.2.1 (by omega) (by omega)) ?_; rintro e wx ⟨ya, rfl, ha, ra, bx⟩; have HA := hide ha; have RA := hide ra; replace B6 := hide (Below.step1 B6.out bx); clear bx ha ra)
         | (go_at_call 23; refine Calls.mono (rof_f (L := 6) (CX.out _ B6.out).2.2.2 (by omega) (by omega)) ?_; rintro e wx ⟨yb, rfl, hb, rb, bx⟩; have HBq := hide hb; have RBq := hide rb; replace RA := hide (RA.out.step bx); replace B6 := hide (Below.step1 B6.out bx); clear bx hb rb)
         | (go_at_call 22; refine Calls.mono (rqcmp_s (L := 30) RA.out RBq.out (by omega) (by omega)) ?_; rintro e wx ⟨rfl, bx⟩; replace B6 := hide (Below.step1 B6.out bx); clear bx))
       all_goals
        rw [HA.out, HBq.out, show cmpR x.x.r q.r = -1 from if_pos HX.out]
        replace QO := hide (QO.out.step B6.out)
        replace BL := hide (Below.step BL.out BL.out.size B6.out)
        go_wp2_with fail
        exact ⟨⟨j + 1, r3, l2, v2, by omega, by have := HJ.out; omega, by go_num, BL, QO, L2, Y2⟩, by simp [intOf]; omega⟩
theorem quprunes_go (w : World) (z : Int) (v : Value) (d : List Nx) (q : Rx) (r : Rat) (hz : (Lit.int .i64 z).wf = true) (hv : Nlv w v d) (hx : Ra w (rx q) r 17592186043904) :
  Calls Tryz.prog 4 #[.int .i64 z, v, rx q] w fun e w' => e = .returned (.bool true) ∧ Below w.heap.size w w' :=
 quprunes_go2 w z v d ⟨q.s, q.u, q.t, r⟩ hz hv hx
end Go.Proofs.YtepaamclfdadnaaGreat
