
/-
 The walk of QueueSorts: true.
-/
import Derived.Test.YtepaamclfdadnaaQs2
import Derived.Test.YtepaamclfdadnaaOpenN
import Derived.Test.YtepaamclfdadnaaBundleO
import Derived.Deep.DeepCutAuto
import Derived.BigRegion
import Derived.Deep.RegionHeld3


namespace Go.Proofs.Ytepaamclfdadnaa
open Go.RowKit Go.Maps Go.Proofs.Ytepaamclfdadnaa.Num
set_option linter.unusedVariables false
set_option linter.unusedSimpArgs false
set_option maxRecDepth 100000
theorem Qo.offN {W W' : World} {B g : Nat} {o : Int} {v : Sl} {M : Nat} (hq : Qo W B g o v [] M) (hg : W.grownBy W' none) : Qo W' B g o v [] M :=
 ⟨(hg.block g hq.1.lt (by simp)).trans hq.1, hq.2.1, by
  rcases hv : (sv v).ownBlock with _ | c
  ·exact hq.2.2.1.kept hg (.inl hv)
  ·exact hq.2.2.1.kept hg (.inr (by rw [hv]; simp)), fun x hx => by cases hx⟩
set_option maxHeartbeats 16000000 in
theorem qusorts_go (w : World) (z : Int) (v : Value) (d : List Nx) (hz : (Lit.int .i64 z).wf = true) (hv : Nlw w v d) :
  Calls Try.prog 3 #[.int .i64 z, v] w fun e w' => e = .returned (.bool true) ∧ Below w.heap.size w w' := by
 obtain ⟨LA, ln, lc, rfl⟩ := rv_sl hv.1.1
 have LN := hide ((lr_nQ hv.1.1).1)
 have L9 := hide (show ln ≤ 1954687338211 by have := (lr_nQ hv.1.1).1; have := hv.1.2.1; omega)
 have WF := hide hv.2
 have V := hide hv.1
 have B := hide (Below.refl w.heap.size w)
 have hmm := @run_makeMap Try.prog
 clear hv
 go_enter Try.func3, Try.ntmps3
 go_wp2_with fail
 refine (quspeaks_true w).mono ?_
 rintro e w1 ⟨rfl, bx⟩
 replace V := hide (V.out.step bx)
 replace B := hide (Below.step B.out B.out.size bx)
 clear bx
 by_cases hz2 : z = 0 ∨ z = 1
 case neg =>
  have hz0 : z ≠ 0 := fun h => hz2 (.inl h)
  have hz1 : z ≠ 1 := fun h => hz2 (.inr h)
  have t2 : (z != 0) = true := by simp [hz0]
  have t3 : (z != 1) = true := by simp [hz1]
  clear hz2
  go_wp2_with fail
  refine (qnewx_c w1 z hz0 hz1).mono ?_
  rintro e w3 ⟨rfl, bx⟩
  replace B := hide (Below.step B.out B.out.size bx)
  clear bx
  go_wp2_with fail
  go_ret
  exact ⟨rfl, B.out⟩
 case pos =>
  have KP := hide (show ∀ W, Below w1.heap.size w1 W → Nlv W (.slice LA ln lc) d ∧ Below w.heap.size w W from fun W h => ⟨V.out.step h, Below.step B.out B.out.size h⟩)
  clear V B
  go_wp2_with fail
  refine (qnew_c w1 z hz2).mono ?_
  rintro e w2 ⟨g, rfl, q1, b1⟩
  have QO := hide (q1.step (bal1 w2 (.map #[] 0)))
  have BL := hide (Below.step b1 b1.size (bal1 w2 (.map #[] 0)))
  have MI := hide (Mi.new w2)
  have HB := hide (show w1.heap.size ≤ w2.heap.size from b1.size)
  clear q1 b1 hz2
  go_wp2_with fail
  generalize (w2.alloc (.map #[] 0)) = w3 at *
  generalize w2.heap.size = b at *
  go_loopw [34] (fun iv wr => ∃ (k n : Nat) (l : List Nx) (vq : Sl), k ≤ ln ∧ n ≤ k ∧ iv = .int .i64 (k : Int) ∧ Hid (Below w1.heap.size w1 wr) ∧ Hid (Qo wr w1.heap.size g z vq l 6) ∧ Hid (Hn z l l.length) ∧ Hid (Mi wr b n (cnt l)) ∧ Hid (l.length = k) ∧ Hid (∀ x ∈ l, (Lit.int .i64 x.id).wf = true)) (fun iv _ => ln - (intOf iv).toNat)
  case atStart => exact ⟨0, 0, [], (none, 0, 0), Nat.zero_le _, Nat.le_refl _, rfl, BL, QO, hide (Hn.zero _ _), MI, hide rfl, hide (fun x hx => by cases hx)⟩
  case round =>
   clear BL QO MI
   obtain ⟨k, n, l, vq, hk, hnk, rfl, BL, QO, HN, MI, LK, WL⟩ := hrel
   by_cases hlt : k < ln
   ·have l1 : (0 : Int) ≤ (k : Int) := by omega
    have l2 : (k : Int) < (ln : Int) := by omega
    obtain ⟨x, hx⟩ := len_of (d := d) (k := k) (by have := LN.out; omega)
    have HX := hide (List.mem_of_getElem? hx)
    have K := KP.out _ BL.out
    obtain ⟨b1, off1, e1, hb1, hc1⟩ := K.1.1.get hx
    subst e1
    have x0 := hc1 0 _ rfl
    have x1 := hc1 1 _ rfl
    have x2 := hc1 2 _ rfl
    have x3 := hc1 3 _ rfl
    have x4 := hc1 4 _ rfl
    rw [Nat.add_zero] at x0
    have bn := bal1 wr (nbox x)
    have NX := hide (Nq.new wr x)
    have SX := hide (show g < wr.heap.size ∧ (∀ b, (sv vq).ownBlock = some b → b < wr.heap.size) from ⟨QO.out.1.lt, fun b e => (QO.out.2.2.1.lt e).2⟩)
    replace QO := hide (QO.out.step bn)
    replace MI := hide (MI.out.step bn)
    replace BL := hide (Below.step BL.out BL.out.size bn)
    clear bn K hb1 hc1 hx
    obtain ⟨y0, y1, y2, y3, y4⟩ := NX.out.all
    go_wp2_with fail
    generalize hW : (wr.alloc (nbox x)) = w4 at *
    have GX := hide (show wr.heap.size < w4.heap.size by rw [← hW]; simp)
    clear hW
    generalize hgx : wr.heap.size = gx at *
    clear hgx
    refine (words_x ((KP.out _ BL.out).1.2.2 x HX.out) (by omega)).mono ?_
    rintro e w5 ⟨rfl, bx⟩
    replace QO := hide (QO.out.step bx)
    replace MI := hide (MI.out.step bx)
    replace NX := hide (NX.out.step bx)
    replace BL := hide (Below.step BL.out BL.out.size bx)
    clear bx y0 y1 y2 y3 y4 x0 x1 x2 x3 x4
    obtain ⟨mx, hm⟩ : ∃ m, m = x.x.u.2.1 + x.x.t.2.1 := ⟨_, rfl⟩
    rw [← hm]
    have HM := hide hm
    clear hm
    by_cases h6 : 6 < mx
    ·have t2 : decide ((6 : Int) < (mx : Int)) = true := decide_eq_true (by omega)
     have B1 := hide (KP.out _ BL.out).2
     go_wp2_with fail
     go_ret
     exact ⟨rfl, B1.out⟩
    ·have t2 : decide ((6 : Int) < (mx : Int)) = false := decide_eq_false (by omega)
     have KX := hide (((KP.out _ BL.out).1.2.2 x HX.out).tight (M := 6) (by have := HM.out; omega) (by have := HM.out; omega))
     clear h6 HM
     obtain ⟨y0, y1, y2, y3, y4⟩ := NX.out.all
     have hk9 : k ≤ 1954687338211 := by have := L9.out; omega
     have LL := hide (show l.length + 1 ≤ 1954687338211 by have := LK.out; have := L9.out; omega)
     go_wp2_with fail
     refine (qpush_c (n := x) QO.out KX.out LL.out (by omega) (by omega)).mono ?_
     rintro e w6 ⟨rfl, v6, l6, z6, ez, rz, q6, p6, h6, ef⟩
     replace NX := hide (show Nq w6 gx x from (ef.2.1 gx NX.out.lt (by have := SX.out.1; omega) (fun e => by have := SX.out.2 _ e; omega)).trans NX.out)
     replace MI := hide (MI.out.efq QO.out ef)
     have CN := hide (show ∀ i, cnt l6 i = cnt l i + if i = x.id then 1 else 0 from fun i => by rw [cnt_perm p6, cnt_cons])
     replace QO := hide q6
     replace HN := hide (h6 HN.out)
     replace BL := hide (BL.out.trans ef.1)
     have WX := hide (WF.out x HX.out)
     have WL6 := hide (show ∀ y ∈ l6, (Lit.int .i64 y.id).wf = true from fun y hy => by
      rcases List.mem_cons.1 (p6.mem_iff.1 hy) with e | h
      ·rw [e]; exact WX.out
      ·exact WL.out y h)
     have L6 := hide (show l6.length = k + 1 by rw [p6.length_eq, List.length_cons, LK.out])
     obtain ⟨c, hc⟩ : ∃ c, cnt l x.id = c := ⟨_, rfl⟩
     have hc0 : 0 ≤ c ∧ c ≤ (k : Int) := by have := cnt_le l x.id; have := LK.out; omega
     obtain ⟨c1, hc1⟩ : ∃ c1, c1 = c + 1 := ⟨_, rfl⟩
     have e1 : IntKind.i64.wrap (c + 1) = c1 := by rw [IntWalk.i64_in _ (by omega)]; omega
     have HC := hide hc
     have HC1 := hide hc1
     clear q6 p6 h6 ef ez rz y0 y1 y2 y3 y4 SX GX LK LL WL KX hc hc1
     obtain ⟨y0, y1, y2, y3, y4⟩ := NX.out.all
     go_wp2_with (first
      | (at_lookup; refine wpList_lookup_mi _ rfl _ _ 28 rfl Try.underlying28 b n (cnt l) rfl MI.out x.id c rfl WX.out HC.out ?_)
      | (at_mapUpdate; refine wpList_update_mi _ rfl _ _ _ 28 rfl Try.underlying28 b n (cnt l) rfl MI.out (by omega) x.id c1 rfl rfl WX.out (by have := HC1.out; omega) (by have := HC1.out; omega) ?_; intro w7 m7 g7))
     have M7 := hide (m7.congr (g := cnt l6) (fun i => by
      rw [CN.out i]
      by_cases h : i = x.id
      ·rw [if_pos h, if_pos h, h, HC.out, HC1.out]
      ·rw [if_neg h, if_neg h, Int.add_zero]))
     have Q7 := hide (QO.out.offM g7 MI.out.nc)
     have B7 := hide (show Below w1.heap.size w1 w7 from BL.out.grown g7 BL.out.size (fun a e => by injection e with e; have := HB.out; omega))
     clear m7 g7
     exact ⟨⟨k + 1, n + 1, l6, v6, by omega, by omega, by go_num, B7, Q7, HN, M7, L6, WL6⟩, by simp [intOf]; omega⟩
   ·have hkn : k = ln := by omega
    subst hkn
    have hk9 : k ≤ 1954687338211 := by have := L9.out; omega
    have LL := hide (show l.length ≤ 2000000000000 by have := LK.out; omega)
    have NK := hide (show n + l.length + 1 ≤ 4000000000000 by have := LK.out; omega)
    clear hk hnk hlt hk9
    go_wp2_with fail
    refine (qpops_c QO.out HN.out LL.out).mono ?_
    rintro e w5 ⟨x, t, v5, l5, rfl, q5, h5, ef, ht, hf⟩
    have M5 := MI.out.efq QO.out ef
    have bn := bal1 w5 (nbox x)
    have NX := hide (Nq.new w5 x)
    have OG := hide (show g < w5.heap.size ∧ (∀ a, (sv v5).ownBlock = some a → a < w5.heap.size) ∧ b < w5.heap.size from ⟨q5.1.lt, fun a e => (q5.2.2.1.lt e).2, M5.lt⟩)
    have B5 := BL.out.trans ef.1
    have HT := hide (show t = true → Mi (w5.alloc (nbox x)) b n (cnt (x :: l5)) ∧ Rg (w5.alloc (nbox x)) w1.heap.size x.x 6 ∧ (∀ y ∈ l5, ¬ ah z y x) ∧ (Lit.int .i64 x.id).wf = true from fun h => by
     obtain ⟨p, r, f⟩ := ht h
     exact ⟨(M5.step bn).congr (fun i => (cnt_perm p i).symm), r.step bn, f, WL.out x (p.mem_iff.1 (List.mem_cons_self ..))⟩)
    have HF := hide (show t = false → l5 = [] ∧ Mi (w5.alloc (nbox x)) b n (cnt []) from fun h => by
     obtain ⟨e1, e2⟩ := hf h
     rw [e1] at M5
     exact ⟨e2, M5.step bn⟩)
    have WL5 := hide (show ∀ y ∈ l5, (Lit.int .i64 y.id).wf = true from fun y hy => by
     cases t with
     | true => exact WL.out y ((ht rfl).1.mem_iff.1 (List.mem_cons_of_mem _ hy))
     | false => rw [(hf rfl).2] at hy; cases hy)
    have NK5 := hide (show n + l5.length + boolOf (.bool t) ≤ 4000000000000 by
     cases t with
     | true => have := (ht rfl).1.length_eq; have := NK.out; simp [boolOf] at *; omega
     | false => rw [(hf rfl).2]; have := NK.out; simp [boolOf]; omega)
    have LT5 := hide (show l5.length ≤ 2000000000000 by
     cases t with
     | true => have := (ht rfl).1.length_eq; have := LL.out; simp at *; omega
     | false => rw [(hf rfl).2]; simp)
    have Q5 := hide (q5.step bn)
    have HN5 := hide h5
    have BL5 := hide (Below.step B5 B5.size bn)
    clear q5 h5 ef ht hf M5 bn B5 QO HN MI LK WL LL NK BL
    go_wp2_with fail
    have SX := hide (show w5.heap.size < (w5.alloc (nbox x)).heap.size by simp)
    generalize hW : (w5.alloc (nbox x)) = w6 at *
    have BG := hide (show w1.heap.size ≤ w5.heap.size from Nat.le_trans HB.out (by have := OG.out.2.2; omega))
    generalize hg9 : w5.heap.size = g9 at *
    clear hW hg9
    go_loopw [11] (fun av wr => ∃ (x : Nx) (t : Bool) (n : Nat) (l : List Nx) (vq : Sl), av = .bool t ∧ Hid (Below w1.heap.size w1 wr) ∧ Hid (Qo wr w1.heap.size g z vq l 6) ∧ Hid (Hn z l l.length) ∧ Hid (Nq wr g9 x) ∧ Hid (g ≠ g9 ∧ (sv vq).ownBlock ≠ some g9 ∧ b ≠ g9) ∧
      Hid (t = true → Mi wr b n (cnt (x :: l)) ∧ Rg wr w1.heap.size x.x 6 ∧ (∀ y ∈ l, ¬ ah z y x) ∧ (Lit.int .i64 x.id).wf = true) ∧ Hid (t = false → l = [] ∧ Mi wr b n (cnt [])) ∧ Hid (∀ y ∈ l, (Lit.int .i64 y.id).wf = true) ∧ Hid (n + l.length + boolOf (.bool t) ≤ 4000000000000) ∧ Hid (l.length ≤ 2000000000000)) (fun av wr => lenAt wr g + boolOf av)
    case atStart => exact ⟨x, t, n, l5, v5, rfl, BL5, Q5, HN5, NX, hide ⟨by have := OG.out.1; omega, fun e => by have := OG.out.2.1 _ e; omega, by have := OG.out.2.2; omega⟩, HT, HF, WL5, NK5, LT5⟩
    case round =>
     clear BL5 Q5 HN5 NX HT HF WL5 NK5 OG LT5
     obtain ⟨x, t, n, l, vq, rfl, BL, QO, HN, NX, OG, HT, HF, WL, NK, LT⟩ := hrel
     cases t with
     | false =>
      obtain ⟨hl, mi⟩ := HF.out rfl
      subst hl
      obtain ⟨D, hown, hD⟩ := mi
      have HD := hide hD
      have MN := hide (show ∀ cs T fz, wr.heap[b]? ≠ some (.cells cs T fz) from Mi.nc ⟨D, hown, hD⟩)
      clear HT HF HN WL NK LT hD
      go_wp2_with (first
       | (at_range; refine wpList_range_own _ rfl _ 28 rfl 3 3 lawI Try.underlying28 _ b n D rfl hown ?_; intro w7 hrg0 hg0 hs0))
      go_frame
      have HO := hide (show w1.heap.size ≤ wr.heap.size from BL.out.size)
      have B7 := BL.out.grown hg0 BL.out.size (fun a e => by cases e)
      have Q7 : Qo w7 w1.heap.size g z vq [] 6 := QO.out.offN hg0
      generalize wr.heap.size = r at *
      go_loopw [15] (fun _ wx => ∃ (left : Lit → Bool) (c : Nat), wx.ranges Try.prog 3 (plainElem Try.prog 3) b r n D left c ∧ Hid (Below w1.heap.size w1 wx) ∧ Hid (Qo wx w1.heap.size g z vq [] 6)) (fun _ wx => wx.rangeLeft b r)
      case atStart => exact ⟨_, _, hrg0, hide B7, hide Q7⟩
      case round =>
       clear B7 Q7 hrg0 hg0 hs0 QO BL NX
       obtain ⟨left, cn, hrg, BL, QO⟩ := hrel
       go_wp2_with (first
        | (at_next; refine wpList_next_ranges_ii _ rfl _ rfl 3 3 .i64 .i64 lawI Try.underlying3 Try.underlying3 b r n _ _ _ rfl hrg ?_ ?_))
       ·intro _ hl0
        have B1 := hide (KP.out _ BL.out).2
        go_wp2_with fail
        refine (qlen_c QO.out).mono ?_
        rintro e wy ⟨rfl, bx⟩
        replace B1 := hide (Below.step B1.out B1.out.size bx)
        clear bx
        go_wp2_with fail
        go_ret
        exact ⟨rfl, B1.out⟩
       ·intro x c w8 cn1 hwx hwc hlx hat hrg1 hlt hg1 hs1 hen
        have hc0 : c = 0 := by
         have h1 := HD.out x hwx
         rw [hat, cnt_nil] at h1
         injection h1 with h1
         injection h1
        subst hc0
        have B8 := hide (BL.out.grown hg1 BL.out.size (fun a e => by injection e with e; have := HO.out; omega))
        have Q8 := hide (QO.out.offM hg1 (ranges_nc hrg))
        have ME := hide (show w8.rangeLeft b r < wr.rangeLeft b r by rw [hrg1.left_eq, hrg.left_eq]; exact hlt)
        go_wp2_with fail
        exact ⟨⟨_, cn1, hrg1, B8, Q8⟩, ME.out⟩
     | true =>
      have LA0 := hide QO.out.lenAt
      obtain ⟨mi, rg, fi, wx⟩ := HT.out rfl
      have MI := hide mi
      have RX := hide rg
      have FI := hide fi
      have WX := hide wx
      clear HT HF mi rg fi wx
      have hnk : n + l.length + 1 ≤ 4000000000000 := NK.out
      obtain ⟨y0, y1, y2, y3, y4⟩ := NX.out.all
      obtain ⟨c, hc⟩ : ∃ c, cnt (x :: l) x.id = c := ⟨_, rfl⟩
      have hc0 : 0 ≤ c ∧ c ≤ 4000000000000 := by have := cnt_le (x :: l) x.id; simp at this; omega
      obtain ⟨c1, hc1⟩ : ∃ c1, c1 = c - 1 := ⟨_, rfl⟩
      have e1 : IntKind.i64.wrap (c - 1) = c1 := by rw [IntWalk.i64_in _ (by omega)]; omega
      have HC := hide hc
      have HC1 := hide hc1
      clear hc hc1
      go_wp2_with (first
       | (at_lookup; refine wpList_lookup_mi _ rfl _ _ 28 rfl Try.underlying28 b n (cnt (x :: l)) rfl MI.out x.id c rfl WX.out HC.out ?_)
       | (at_mapUpdate; refine wpList_update_mi _ rfl _ _ _ 28 rfl Try.underlying28 b n (cnt (x :: l)) rfl MI.out (by omega) x.id c1 rfl rfl WX.out (by have := HC1.out; omega) (by have := HC1.out; omega) ?_; intro w7 m7 g7))
      have M7 := hide (m7.congr (g := cnt l) (fun i => by
       have h0 := cnt_cons x l i
       by_cases h : i = x.id
       ·rw [if_pos h, HC1.out, ← HC.out, ← h, h0, if_pos h]; omega
       ·rw [if_neg h, h0, if_neg h, Int.add_zero]))
      have Q7 := hide (QO.out.offM g7 MI.out.nc)
      have R7 := hide (RX.out.offM g7 MI.out.nc)
      have X7 := hide (show Nq w7 g9 x from (g7.block g9 NX.out.lt (fun e => OG.out.2.2 (Option.some.inj e).symm)).trans NX.out)
      have B7 := hide (show Below w1.heap.size w1 w7 from BL.out.grown g7 BL.out.size (fun a e => by injection e with e; have := HB.out; omega))
      have S7 := hide (show w1.heap.size ≤ w7.heap.size from B7.out.size)
      clear m7 g7 QO MI RX NX BL y0 y1 y2 y3 y4
      refine (qpops_c Q7.out HN.out LT.out).mono ?_
      rintro e w8 ⟨y, t, v8, l8, rfl, q8, h8, ef, ht, hf⟩
      have X8 : Nq w8 g9 x := (ef.2.1 g9 X7.out.lt (fun e => OG.out.1 e.symm) OG.out.2.1).trans X7.out
      have M8 := M7.out.efq Q7.out ef
      have R8 := R7.out.efq ef Q7.out.1.ot (fun b e => Q7.out.2.2.1.otN b e)
      have O8 := hide (show g ≠ g9 ∧ (sv v8).ownBlock ≠ some g9 ∧ b ≠ g9 from ⟨OG.out.1, fun e => by
       rcases ef.2.2 with h | h
       ·exact OG.out.2.1 (by rw [← h]; exact e)
       ·have := h _ e; have := X7.out.lt; omega, OG.out.2.2⟩)
      have B8 := B7.out.trans ef.1
      have bn := bal1 w8 (nbox y)
      have Y9 := hide (Nq.new w8 y)
      have X9 := hide (X8.step bn)
      have hL8 : l8.length ≤ l.length := by
       cases t with
       | true => have := (ht rfl).1.length_eq; simp at this; omega
       | false => rw [(hf rfl).2]; exact Nat.zero_le _
      have WL8 := hide (show ∀ u ∈ l8, (Lit.int .i64 u.id).wf = true from fun u hu => by
       cases t with
       | true => exact WL.out u ((ht rfl).1.mem_iff.1 (List.mem_cons_of_mem _ hu))
       | false => rw [(hf rfl).2] at hu; cases hu)
      have NK8 := hide (show n + 1 + l8.length + boolOf (.bool t) ≤ 4000000000000 by
       cases t with
       | true => have := (ht rfl).1.length_eq; simp [boolOf] at *; omega
       | false => rw [(hf rfl).2]; simp [boolOf]; omega)
      have ME8 := hide (show l8.length + boolOf (.bool t) < l.length + 1 by
       cases t with
       | true => have := (ht rfl).1.length_eq; simp [boolOf] at *; omega
       | false => rw [(hf rfl).2]; simp [boolOf])
      have LT8 := hide (show l8.length ≤ 2000000000000 by have := LT.out; omega)
      have HT8 := hide ht
      have HN8 := hide h8
      have AX := hide (show t = true → Rg (w8.alloc (nbox y)) w1.heap.size y.x 6 ∧ ¬ ah z y x from fun h => ⟨(ht h).2.1.step bn, FI.out y ((ht h).1.mem_iff.1 (List.mem_cons_self ..))⟩)
      have RX9 := hide (R8.step bn)
      have FIN := hide (show ∀ W, Below (w8.alloc (nbox y)).heap.size (w8.alloc (nbox y)) W →
        Below w1.heap.size w1 (((((W.setCell ⟨g9, 0, none⟩ (.int .i64 y.id)).setCell ⟨g9, 1, none⟩ (.int .i64 y.dp)).setCell ⟨g9, 2, none⟩ (.bool y.x.s)).setCell ⟨g9, 3, none⟩ (sv y.x.u)).setCell ⟨g9, 4, none⟩ (sv y.x.t)) ∧
        Qo (((((W.setCell ⟨g9, 0, none⟩ (.int .i64 y.id)).setCell ⟨g9, 1, none⟩ (.int .i64 y.dp)).setCell ⟨g9, 2, none⟩ (.bool y.x.s)).setCell ⟨g9, 3, none⟩ (sv y.x.u)).setCell ⟨g9, 4, none⟩ (sv y.x.t)) w1.heap.size g z v8 l8 6 ∧
        Nq (((((W.setCell ⟨g9, 0, none⟩ (.int .i64 y.id)).setCell ⟨g9, 1, none⟩ (.int .i64 y.dp)).setCell ⟨g9, 2, none⟩ (.bool y.x.s)).setCell ⟨g9, 3, none⟩ (sv y.x.u)).setCell ⟨g9, 4, none⟩ (sv y.x.t)) g9 y ∧
        (t = true → Mi (((((W.setCell ⟨g9, 0, none⟩ (.int .i64 y.id)).setCell ⟨g9, 1, none⟩ (.int .i64 y.dp)).setCell ⟨g9, 2, none⟩ (.bool y.x.s)).setCell ⟨g9, 3, none⟩ (sv y.x.u)).setCell ⟨g9, 4, none⟩ (sv y.x.t)) b (n + 1) (cnt (y :: l8)) ∧ Rg (((((W.setCell ⟨g9, 0, none⟩ (.int .i64 y.id)).setCell ⟨g9, 1, none⟩ (.int .i64 y.dp)).setCell ⟨g9, 2, none⟩ (.bool y.x.s)).setCell ⟨g9, 3, none⟩ (sv y.x.u)).setCell ⟨g9, 4, none⟩ (sv y.x.t)) w1.heap.size y.x 6 ∧ (∀ u ∈ l8, ¬ ah z u y) ∧ (Lit.int .i64 y.id).wf = true) ∧
        (t = false → l8 = [] ∧ Mi (((((W.setCell ⟨g9, 0, none⟩ (.int .i64 y.id)).setCell ⟨g9, 1, none⟩ (.int .i64 y.dp)).setCell ⟨g9, 2, none⟩ (.bool y.x.s)).setCell ⟨g9, 3, none⟩ (sv y.x.u)).setCell ⟨g9, 4, none⟩ (sv y.x.t)) b (n + 1) (cnt [])) from fun W h => by
       have XW := X9.out.step h
       have on : W.grownBy (put5n W g9 0 y) (some g9) := only_put5n W g9 0 y
       have MW := ((M8.step bn).step h).same (W' := put5n W g9 0 y) (on.block b (((M8.step bn).step h).lt) (fun e => O8.out.2.2 (Option.some.inj e)))
       refine ⟨below_put5n (Below.step (Below.step B8 B8.size bn) (Below.step B8 B8.size bn).size h) BG.out 0 y, ((q8.step bn).step h).off on XW.otq O8.out.1 O8.out.2.1, nq_put5 XW y, fun ht1 => ?_, fun hf1 => ?_⟩
       ·obtain ⟨p, r, f⟩ := ht ht1
        exact ⟨MW.congr (fun i => (cnt_perm p i).symm), ((r.step bn).step h).grownT on (fun g' e => by injection e with e; subst e; exact XW.otq), f, WL.out y (p.mem_iff.1 (List.mem_cons_self ..))⟩
       ·obtain ⟨e1, e2⟩ := hf hf1
        rw [e1] at MW
        exact ⟨e2, MW⟩)
      clear q8 h8 ef ht hf X8 M8 R8 B8 bn Q7 R7 X7 M7 B7 S7 HN OG WL NK LT hL8 hnk hc0 e1
      obtain ⟨x0, x1, x2, x3, x4⟩ := X9.out.all
      obtain ⟨y0, y1, y2, y3, y4⟩ := Y9.out.all
      have z0 := X9.out.fz 0
      have z1 := X9.out.fz 1
      have z2 := X9.out.fz 2
      have z3 := X9.out.fz 3
      have z4 := X9.out.fz 4
      cases t with
      | false =>
       go_wp2_with fail
       obtain ⟨r1, r2, r3, r4, r5⟩ := FIN.out (w8.alloc (nbox y)) (Below.refl _ _)
       have hl := r2.lenAt
       exact ⟨⟨y, false, n + 1, l8, v8, rfl, hide r1, hide r2, HN8, hide r3, O8, hide (fun h => by cases h), hide (fun _ => r5 (by trivial)), WL8, NK8, LT8⟩, by rw [hl, LA0.out]; exact ME8.out⟩
      | true =>
       go_wp2_with fail
       refine (rahead_c (x := y) (y := x) (AX.out (by trivial)).1.ra RX9.out.ra).mono ?_
       rintro e w10 ⟨⟨s, rfl, hs⟩, bx⟩
       have hsf : s = false := by
        cases s with
        | false => rfl
        | true => exact absurd (hs.1 rfl) (AX.out (by trivial)).2
       subst hsf
       have X10 := X9.out.step bx
       have Y10 := Y9.out.step bx
       have R10 := hide (FIN.out w10 bx)
       clear hs bx x0 x1 x2 x3 x4 y0 y1 y2 y3 y4 z0 z1 z2 z3 z4
       obtain ⟨x0, x1, x2, x3, x4⟩ := X10.all
       obtain ⟨y0, y1, y2, y3, y4⟩ := Y10.all
       have z0 := X10.fz 0
       have z1 := X10.fz 1
       have z2 := X10.fz 2
       have z3 := X10.fz 3
       have z4 := X10.fz 4
       clear X10 Y10
       go_wp2_with fail
       obtain ⟨r1, r2, r3, r4, r5⟩ := R10.out
       have hl := r2.lenAt
       exact ⟨⟨y, true, n + 1, l8, v8, rfl, hide r1, hide r2, HN8, hide r3, O8, hide (fun _ => r4 (by trivial)), hide (fun h => by cases h), WL8, NK8, LT8⟩, by rw [hl, LA0.out]; exact ME8.out⟩
end Go.Proofs.Ytepaamclfdadnaa
