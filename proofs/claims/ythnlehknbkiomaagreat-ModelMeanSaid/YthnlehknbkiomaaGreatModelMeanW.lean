
/-
 The walk of ModelMean: true.
-/
import Derived.Test.YthnlehknbkiomaaGreatKxModelMean
import Derived.Test.YthnlehknbkiomaaGreatBundleU
import Derived.Test.YthnlehknbkiomaaGreatPm13
import Derived.Test.YthnlehknbkiomaaGreatBundleN
import Derived.Test.YthnlehknbkiomaaGreatRatQ5
import Derived.Test.YthnlehknbkiomaaGreatVecLinW
import Derived.Deep.DeepCutAuto


namespace Go.Proofs.YthnlehknbkiomaaGreat
open Go.RowKit Go.Proofs.YthnlehknbkiomaaGreat.Num
set_option linter.unusedVariables false
set_option linter.unusedSimpArgs false
set_option maxRecDepth 100000
/-! ### A variable is made no whole one -/
def unw (x : Ux) : Ux := { x with w := false }
def unt (t : Ut) : Ut := { t with w := false }
theorem flat_setW : ∀ (d : List Ux) (i : Nat) (y : Ux), d[i]? = some y → (flat eu d).set (i * 13 + 1) (.bool false) = flat eu (d.set i (unw y))
 | [], i, y, h => by simp at h
 | z :: d, 0, y, h => by simp at h; subst h; simp [flat, eu, unw]
 | z :: d, i + 1, y, h => by
  have ih := flat_setW d i y (by simpa using h)
  rw [List.set_cons_succ, flat, flat, ← ih]
  simp only [eu, List.cons_append, List.nil_append, show (i + 1) * 13 + 1 = (i * 13 + 1) + 1 + 1 + 1 + 1 + 1 + 1 + 1 + 1 + 1 + 1 + 1 + 1 + 1 by omega, List.set_cons_succ]
theorem own_lenT {α : Type} {T : TypeId} {enc : α → List Value} {k : Nat} {W : World} {B g n c : Nat} {d : List α} (h : Ow T enc k W B (.slice (some ⟨g, 0, none⟩) n c) d) : n = d.length := by
 rcases h.form with ⟨e, _⟩ | ⟨g', cap, cur, e, _⟩
 ·cases e
 ·injection e
theorem Ow.putW {W : World} {B g n c i : Nat} {d : List Ux} {y : Ux} (h : Ow 43 eu 13 W B (.slice (some ⟨g, 0, none⟩) n c) d) (hi : d[i]? = some y) :
  Ow 43 eu 13 (W.setCell ⟨g, i * 13 + 1, none⟩ (.bool false)) B (.slice (some ⟨g, 0, none⟩) n c) (d.set i (unw y)) := by
 have hn := own_lenT h
 subst hn
 have h1 := World.ownsRow.stored (show W.ownsRow B _ 13 _ d.length _ from h) (i * 13 + 1) (.bool false)
 have h2 := h1.1
 rw [flat_setW d i y hi] at h2
 unfold Ow
 rw [List.length_set]
 exact h2
theorem Ow.blk {α : Type} {T : TypeId} {enc : α → List Value} {k B g n c : Nat} {W : World} {d : List α} (h : Ow T enc k W B (.slice (some ⟨g, 0, none⟩) n c) d) : ∃ cs, W.heap[g]? = some (.cells cs T (0, 0)) := by
 rcases h.form with ⟨e, _⟩ | ⟨g', cap, cur, e, _, _, hh, _⟩
 ·cases e
 ·injection e with e
  injection e with e
  injection e with e _ _
  subst e
  exact ⟨cur, hh⟩
theorem Uwo.unw {W : World} {B g n c i L : Nat} {d : List Ux} {us : List Ut} {y : Ux} {t : Ut} (h : Uwo W B (.slice (some ⟨g, 0, none⟩) n c) d us L) (hi : d[i]? = some y) (ht : us[i]? = some t) :
  Uwo (W.setCell ⟨g, i * 13 + 1, none⟩ (.bool false)) B (.slice (some ⟨g, 0, none⟩) n c) (d.set i (Go.Proofs.YthnlehknbkiomaaGreat.unw y)) (us.set i (unt t)) L := by
 obtain ⟨cs, hb⟩ := h.1.blk
 have on := only_set (p := ⟨g, i * 13 + 1, none⟩) (only_refl W (some g)) rfl (.bool false)
 refine ⟨h.1.putW hi, by rw [List.length_set, List.length_set]; exact h.2.1, fun j x u hx hu => ?_⟩
 by_cases e : j = i
 ·subst e
  rw [List.getElem?_set_self (List.getElem?_eq_some_iff.1 hi).1] at hx
  rw [List.getElem?_set_self (List.getElem?_eq_some_iff.1 ht).1] at hu
  injection hx with hx
  injection hu with hu
  subst hx hu
  have h1 := (h.2.2 j y t hi ht).box on hb (by decide)
  exact ⟨⟨h1.1.1, rfl, h1.1.2.2⟩, h1.2⟩
 ·rw [List.getElem?_set_ne (fun h => e h.symm)] at hx hu
  exact (h.2.2 j x u hx hu).box on hb (by decide)
theorem wwl_wv {W : World} {v : Value} {d : List Wx} {ts : List Wt} {L : Nat} (h : Wwl W v d ts L) : ∀ r ∈ d, Wv W r L := fun r hr => by
 obtain ⟨i, hi⟩ := List.getElem?_of_mem hr
 obtain ⟨t, ht⟩ := zs_at h.2.1 hi
 have h1 := h.2.2 i r t hi ht
 exact ⟨h1.2.2.2.tv, h1.2.1.ra, h1.2.2.1.ra⟩
theorem uwl_uv {W : World} {v : Value} {d : List Ux} {ts : List Ut} {L : Nat} (h : Uwl W v d ts L) : ∀ r ∈ d, Uv W r L := fun r hr => by
 obtain ⟨i, hi⟩ := List.getElem?_of_mem hr
 obtain ⟨t, ht⟩ := zs_at h.2.1 hi
 have h1 := h.2.2 i r t hi ht
 exact ⟨h1.2.1.ra, h1.2.2.1.ra, h1.2.2.2.ra⟩
theorem len_copy {W W' : World} {B : Nat} {v v' : Value} {d d' : List Wx} {ts : List Wt} {L M : Nat} (h : Wwl W v d ts L) (k : Wwo W' B v' d' ts M) (hd : ∀ r ∈ d, r.d.length ≤ 30) : d'.length = d.length ∧ ∀ r ∈ d', r.d.length ≤ 30 := by
 refine ⟨by rw [k.2.1, h.2.1], fun r hr => ?_⟩
 obtain ⟨i, hi⟩ := List.getElem?_of_mem hr
 obtain ⟨t, ht⟩ := zs_at k.2.1 hi
 have hl : i < d.length := by have := (List.getElem?_eq_some_iff.1 hi).1; have := k.2.1; have := h.2.1; omega
 obtain ⟨x, hx⟩ := len_of (d := d) hl
 have h1 := (k.2.2 i r t hi ht).2.2.2.2.1
 have h2 := (h.2.2 i x t hx ht).2.2.2.2.1
 have h3 := hd x (List.mem_of_getElem? hx)
 omega
def Mns (f h z : List Rx) (k : Nat) : Prop := z.length = k ∧ ∀ (j : Nat) e, z[j]? = some e → e.r = mean (xf f (j : Int)) (xf h (j : Int))
theorem Mns.next {f h z : List Rx} {k : Nat} {e : Rx} (hm : Mns f h z k) (he : e.r = mean (xf f (k : Int)) (xf h (k : Int))) : Mns f h (z ++ [e]) (k + 1) := by
 refine ⟨by simp [hm.1], fun j y hy => ?_⟩
 by_cases hj : j < z.length
 ·rw [List.getElem?_append_left hj] at hy
  exact hm.2 j y hy
 ·rw [List.getElem?_append_right (by omega)] at hy
  have hl := (List.getElem?_eq_some_iff.1 hy).1
  simp at hl
  have hjk : j = k := by have := hm.1; omega
  have h0 : j - z.length = 0 := by omega
  rw [h0] at hy
  simp at hy
  subst hy hjk
  exact he
theorem Mns.all {f h z : List Rx} (hm : Mns f h z f.length) (hl : h.length = f.length) (c : Int) : xf z c = mean (xf f c) (xf h c) := by
 by_cases hc : 0 ≤ c ∧ c < (f.length : Int)
 ·obtain ⟨k, rfl⟩ : ∃ k : Nat, c = (k : Int) := ⟨c.toNat, by omega⟩
  obtain ⟨e, he⟩ := len_of (d := z) (k := k) (by have := hm.1; omega)
  rw [xf_in he]
  exact hm.2 k e he
 ·rw [xf_out z c (by have := hm.1; omega), xf_out f c (by omega), xf_out h c (by omega)]
  unfold mean
  grind
theorem cst_mean {p : Px} {f h z : List Rx} (hm : Mns f h z f.length) (hl : h.length = f.length) : ((2 : Int) : Rat) * cst p z = cst p f + cst p h := by
 unfold cst
 rw [hm.1, hl, show ((2 : Int) : Rat) = (2 : Rat) by decide +kernel]
 exact sm_mean f.length (fun i => xf (p.vars.map (·.co)) (i : Int)) (hm.all hl)
theorem lit0 (W : World) (B : Nat) (hB : B ≤ W.heap.size) : Ow 41 er 3 (W.alloc (.cells #[] 41)) B (.slice (some ⟨W.heap.size, 0, none⟩) 0 0) [] := Ow.lit er_len W 41 [] #[] rfl hB (by simp [maxLen])
theorem f3 {W : World} {g : Nat} {s : Bool} {u t : Value} (h : Fq W g s u t) : W.cell? ⟨g, 0, none⟩ = some (.bool s) ∧ W.cell? ⟨g, 1, none⟩ = some u ∧ W.cell? ⟨g, 2, none⟩ = some t := ⟨h.all.1, h.all.2.1, h.all.2.2.1⟩
def Zq9 (W0 : World) (g : Nat) (V : World) : Prop := W0.heap.size ≤ g ∧ V.heap[g]? = some fqblk
theorem Zq9.step {W0 V V' : World} {g : Nat} (h : Zq9 W0 g V) (hb : Below V.heap.size V V') : Zq9 W0 g V' := ⟨h.1, (hb.block g (Array.getElem?_eq_some_iff.1 h.2).1).trans h.2⟩
theorem Rf.keepB {W W' : World} {v : Value} {r : Rat} {L g : Nat} (h : Rf W v r L) (hb : ∃ cs, W.heap[g]? = some (.cells cs 56 (0, 0)) ∧ cs.toList.all (fun v => match v with | .int .i64 _ => false | _ => true) = true) (hg : W.grownBy W' (some g)) : Rf W' v r L := by
 obtain ⟨cs, h1, h2⟩ := hb
 exact h.grownI hg (nui_of h1 h2)
theorem Zq9.put {W0 V : World} {g L : Nat} (h : Zq9 W0 g V) (x : Rx) (hr : Rf V (rx x) x.r L) (B : Below W0.heap.size W0 V) : ∃ V', (((V.setCell ⟨g, 0, none⟩ (.bool x.s)).setCell ⟨g, 1, none⟩ (sv x.u)).setCell ⟨g, 2, none⟩ (sv x.t)) = V' ∧ (V.cell? ⟨g, 0, none⟩ = some (.bool false) ∧ V.cell? ⟨g, 1, none⟩ = some (.slice none 0 0) ∧ V.cell? ⟨g, 2, none⟩ = some (.slice none 0 0)) ∧ (V.frozen? ⟨g, 0, none⟩ = false ∧ V.frozen? ⟨g, 1, none⟩ = false ∧ V.frozen? ⟨g, 2, none⟩ = false) ∧ Fq V' g x.s (sv x.u) (sv x.t) ∧ Below W0.heap.size W0 V' ∧ Rf V' (rx x) x.r L := by
 have h0 := heap_setCell_same V g 0 _ _ (.bool x.s) h.2
 have h1 := heap_setCell_same _ g 1 _ _ (sv x.u) h0
 have h2 := heap_setCell_same _ g 2 _ _ (sv x.t) h1
 exact ⟨_, rfl, ⟨cell_of_row V g 0 _ _ _ h.2, cell_of_row V g 1 _ _ _ h.2, cell_of_row V g 2 _ _ _ h.2⟩, ⟨frozen_of_row V g 0 _ _ h.2, frozen_of_row V g 1 _ _ h.2, frozen_of_row V g 2 _ _ h.2⟩, h2, below_put3 B h.1 _ _ _, hr.keepB ⟨_, h.2, rfl⟩ (only_put3 V g _ _ _)⟩
set_option maxHeartbeats 32000000 in
theorem mmean_go (w : World) (p : Px) (v : Value) (f : List Rx) (u : Value) (h : List Rx) (hp : Pv w p 17592186043904) (hv : Fv w v f 17592186043904) (hu : Fv w u h 17592186043904) :
  Calls Tryz.prog 5 #[px p, v, u] w fun e w' => e = .returned (.bool true) ∧ Below w.heap.size w w' := by
 obtain ⟨i0, hi0, hz0, hz1, hz2⟩ := info_parts info_rt
 obtain ⟨A6, c6, e6, hd1, hd2, hd3⟩ := id hv.1
 obtain ⟨n6, hlf⟩ : ∃ n6, n6 = f.length := ⟨_, rfl⟩
 rw [← hlf] at e6 hd1
 subst e6
 obtain ⟨A7, c7, e7, hh1, hh2, hh3⟩ := id hu.1
 obtain ⟨n7, hlh⟩ : ∃ n7, n7 = h.length := ⟨_, rfl⟩
 rw [← hlh] at e7 hh1
 subst e7
 have FL := hide hlf
 have HL := hide hlh
 have b2 := alloc_below w (pbox p)
 have PP := hide (Pq.new w p)
 have HP := hide (hp.step b2)
 have HX := hide (hv.step b2)
 have HY := hide (hu.step b2)
 have BW := hide b2
 unfold maxLen at hd2 hh2
 clear hp hv hu b2 hlf hlh hd3 hh3
 go_enter Tryz.func5, Tryz.ntmps5
 go_wp2_with fail
 generalize (w.alloc (pbox p)) = w0 at *
 refine (mspeaks_true w0).mono ?_
 rintro e w1 ⟨rfl, bx⟩
 replace PP := hide (PP.out.step bx)
 replace HP := hide (HP.out.step bx)
 replace HX := hide (HX.out.step bx)
 replace HY := hide (HY.out.step bx)
 replace BW := hide (Below.step BW.out BW.out.size bx)
 clear bx
 obtain ⟨p0, p1, p2, p3⟩ := PP.out.all
 go_wp2_with fail
 refine (pgreat_c HP.out (by omega)).mono ?_
 rintro e w2 ⟨bx, o, rfl, ho⟩
 have HO := hide ho
 replace PP := hide (PP.out.step bx)
 replace HP := hide (HP.out.step bx)
 replace HX := hide (HX.out.step bx)
 replace HY := hide (HY.out.step bx)
 replace BW := hide (Below.step BW.out BW.out.size bx)
 clear ho bx p0 p1 p2 p3
 obtain ⟨p0, p1, p2, p3⟩ := PP.out.all
 cases o
 case true =>
  go_wp2_with fail
  go_ret
  exact ⟨rfl, BW.out⟩
 have OK := hide (HO.out rfl)
 replace HP := hide (HP.out.tight OK.out)
 clear HO
 go_wp2_with fail
 refine (greatall_c HX.out (by omega)).mono ?_
 rintro e w3 ⟨bx, o, rfl, ho⟩
 have HO := hide ho
 replace PP := hide (PP.out.step bx)
 replace HP := hide (HP.out.step bx)
 replace HX := hide (HX.out.step bx)
 replace HY := hide (HY.out.step bx)
 replace BW := hide (Below.step BW.out BW.out.size bx)
 clear ho bx p0 p1 p2 p3
 obtain ⟨p0, p1, p2, p3⟩ := PP.out.all
 cases o
 case true =>
  go_wp2_with fail
  go_ret
  exact ⟨rfl, BW.out⟩
 have FN := hide (show f.length ≤ 30 from (HO.out rfl).1)
 replace HX := hide (HX.out.tight (HO.out rfl).2)
 clear HO
 go_wp2_with fail
 refine (greatall_c HY.out (by omega)).mono ?_
 rintro e w4 ⟨bx, o, rfl, ho⟩
 have HO := hide ho
 replace PP := hide (PP.out.step bx)
 replace HP := hide (HP.out.step bx)
 replace HX := hide (HX.out.step bx)
 replace HY := hide (HY.out.step bx)
 replace BW := hide (Below.step BW.out BW.out.size bx)
 clear ho bx p0 p1 p2 p3
 obtain ⟨p0, p1, p2, p3⟩ := PP.out.all
 cases o
 case true =>
  go_wp2_with fail
  go_ret
  exact ⟨rfl, BW.out⟩
 replace HY := hide (HY.out.tight (HO.out rfl).2)
 clear HO
 by_cases hnn : n6 = n7
 case neg =>
  have t0 : ((n6 : Int) != (n7 : Int)) = true := by simp; omega
  go_wp2_with fail
  go_ret
  exact ⟨rfl, BW.out⟩
 subst hnn
 have t0 : ((n6 : Int) != (n6 : Int)) = false := by simp
 have LXY := hide (show h.length = f.length by rw [← HL.out, ← FL.out])
 obtain ⟨ts, hts⟩ := wwl_of HP.out.1.1 HP.out.1.2
 obtain ⟨us, hus⟩ := uwl_of HP.out.2.1 HP.out.2.2
 have TS := hide hts
 have US := hide hus
 clear hts hus
 go_wp2_with fail
 refine (pcopy_w TS.out US.out OK.out.len (by omega)).mono ?_
 rintro e w5 ⟨⟨nm, ob, ⟨QA, qn, qc⟩, rows, ⟨UA, un, uc⟩, vars⟩, rfl, -, -, hr, hu9, bx⟩
 have b3 := alloc_below w5 (.cells #[.string nm, .string ob, .slice QA qn qc, .slice UA un uc] 25)
 have QL := hide (len_copy TS.out hr OK.out.len.2.2)
 have UL := hide (show vars.length = p.vars.length by rw [hu9.2.1, US.out.2.1])
 have PQ := hide (show Pq (w5.alloc (.cells #[.string nm, .string ob, .slice QA qn qc, .slice UA un uc] 25)) w5.heap.size ⟨nm, ob, (QA, qn, qc), rows, (UA, un, uc), vars⟩ from heap_alloc_new w5 _)
 have RW := hide (hr.step b3)
 have UW := hide (hu9.step b3)
 have B0 := hide (Below.step bx bx.size b3)
 obtain ⟨n, hlen⟩ : ∃ n, n = vars.length := ⟨_, rfl⟩
 have hun : un = n := by
  obtain ⟨A', c', e', -⟩ := hu9.1.rl eu_len
  injection e' with _ e2 _
  have e2 : un = vars.length := e2
  omega
 have hcap : n ≤ 50 := by rw [hlen, UL.out]; exact OK.out.2.1
 subst hun
 have HN := hide hlen
 clear hr hu9 bx b3 p0 p1 p2 p3 t0 TS US HP PP hlen
 obtain ⟨p0, p1, p2, p3⟩ := PQ.out.alls
 go_wp2_with fail
 clear p0 p1 p2 p3
 generalize (w5.alloc (.cells #[.string nm, .string ob, .slice QA qn qc, .slice UA un uc] 25)) = w6 at *
 generalize w5.heap.size = g7 at *
 go_loopw [37] (fun iv wr => ∃ (k : Nat) (cur : List Ux) (us : List Ut), k ≤ un ∧ iv = .int .i64 (k : Int) ∧ Hid (Below w4.heap.size w4 wr) ∧ Hid (Pq wr g7 ⟨nm, ob, (QA, qn, qc), rows, (UA, un, uc), vars⟩) ∧ Hid (Wwo wr w4.heap.size (.slice QA qn qc) rows ts 6) ∧ Hid (Uwo wr w4.heap.size (.slice UA un uc) cur us 6) ∧ Hid (cur.length = un ∧ ∀ (j : Nat) x, j < k → cur[j]? = some x → x.w = false)) (fun iv _ => un - (intOf iv).toNat)
 case atStart => exact ⟨0, vars, _, Nat.zero_le _, rfl, B0, PQ, RW, UW, hide ⟨HN.out.symm, fun j x h => by omega⟩⟩
 case round =>
  clear PQ RW UW B0
  obtain ⟨k, cur, us, hk, rfl, B, PQ, RW, UW, CU⟩ := hrel
  by_cases hlt : k < un
  ·obtain ⟨x, hx⟩ := len_of (d := cur) (k := k) (by rw [CU.out.1]; exact hlt)
   obtain ⟨t, ht⟩ := zs_at UW.out.2.1 hx
   obtain ⟨g, hUA, hgB⟩ : ∃ g, UA = some ⟨g, 0, none⟩ ∧ w4.heap.size ≤ g := by
    rcases UW.out.1.form with ⟨e, e2⟩ | ⟨g, cap, cs, e, hB, _⟩
    ·exfalso
     have := CU.out.1
     rw [e2] at this
     simp at this
     omega
    ·injection e with e1 e2 e3
     exact ⟨g, e1, hB⟩
   subst hUA
   obtain ⟨cs, hblk⟩ := UW.out.1.blk
   have hne : g7 ≠ g := fun e => by
    subst e
    have h1 := PQ.out
    unfold Pq at h1
    rw [hblk] at h1
    injection h1 with h1
    injection h1 with _ e2 _
    exact absurd e2 (by decide)
   obtain ⟨b', off', e', hb', hc'⟩ := (UW.out.1.rl eu_len).get hx
   injection e' with e'
   injection e' with e1 e2
   subst e1 e2
   have c1 := hc' 1 _ rfl
   rw [Nat.zero_add] at c1
   have f1 := UW.out.1.frozen rfl (k * 13 + 1)
   have on := only_set (p := ⟨g, k * 13 + 1, none⟩) (only_refl wr (some g)) rfl (.bool false)
   have UW2 := hide (UW.out.unw hx ht)
   have RW2 := hide (RW.out.box on hblk (by decide) (by decide) (by decide))
   have PQ2 := hide (PQ.out.oth hne (k * 13 + 1) (.bool false))
   have B2 := hide (B.out.setCell (p := ⟨g, k * 13 + 1, none⟩) hgB (.bool false))
   have C2 := hide (show (cur.set k (unw x)).length = un ∧ ∀ (j : Nat) y, j < k + 1 → (cur.set k (unw x))[j]? = some y → y.w = false from ⟨by rw [List.length_set]; exact CU.out.1, fun j y hj hy => by
    by_cases e : j = k
    ·subst e
     rw [List.getElem?_set_self (by rw [CU.out.1]; exact hlt)] at hy
     injection hy with hy
     subst hy
     rfl
    ·rw [List.getElem?_set_ne (fun h => e h.symm)] at hy
     exact CU.out.2 j y (by omega) hy⟩)
   obtain ⟨p0, p1, p2, p3⟩ := PQ.out.alls
   have l0 : (0 : Int) ≤ (k : Int) := by omega
   have l1 : (k : Int) < (un : Int) := by omega
   clear hx ht hb' hc' hblk hne on B RW UW CU
   go_wp2_with fail
   exact ⟨⟨k + 1, _, _, by omega, by go_num, B2, PQ2, RW2, UW2, C2⟩, by simp [intOf]; omega⟩
  ·obtain rfl : un = k := by omega
   have HQ := hide (show Pv wr ⟨nm, ob, (QA, qn, qc), rows, (UA, un, uc), cur⟩ 6 from ⟨⟨RW.out.1.rl ew_len, wwl_wv RW.out.wwl⟩, UW.out.1.rl eu_len, uwl_uv UW.out.uwl⟩)
   have QLN := hide (show PsLen ⟨nm, ob, (QA, qn, qc), rows, (UA, un, uc), cur⟩ from ⟨by show rows.length ≤ 70; rw [QL.out.1]; exact OK.out.1, by show cur.length ≤ 50; rw [CU.out.1]; exact hcap, QL.out.2⟩)
   have QN := hide (show (⟨nm, ob, (QA, qn, qc), rows, (UA, un, uc), cur⟩ : Px).vars.length ≤ 1000 from by show cur.length ≤ 1000; rw [CU.out.1]; omega)
   have LO := hide (show Px.loose ⟨nm, ob, (QA, qn, qc), rows, (UA, un, uc), cur⟩ from fun x hx => by
    obtain ⟨j, hj⟩ := List.getElem?_of_mem hx
    exact CU.out.2 j x (by rw [← CU.out.1]; exact (List.getElem?_eq_some_iff.1 hj).1) hj)
   replace PQ := hide (show Pq wr g7 ⟨nm, ob, (QA, qn, qc), rows, (UA, un, uc), cur⟩ from PQ.out)
   replace HX := hide (HX.out.step B.out)
   replace HY := hide (HY.out.step B.out)
   replace BW := hide (Below.step BW.out BW.out.size B.out)
   clear RW UW B CU
   go_wp2_with fail
   refine (rqsmall_f wr 2 (by omega) (by omega)).mono ?_
   rintro e w7 ⟨tw, rfl, h2, rt, bx⟩
   have bq := alloc_below w7 (fqbox tw.s (sv tw.u) (sv tw.t))
   have E2 := hide h2
   have TQ := hide (Fq.new w7 tw.s (sv tw.u) (sv tw.t))
   have TW := hide (rt.step bq)
   replace HQ := hide ((HQ.out.step bx).step bq)
   replace HX := hide ((HX.out.step bx).step bq)
   replace HY := hide ((HY.out.step bx).step bq)
   replace PQ := hide ((PQ.out.step bx).step bq)
   replace BW := hide (Below.step (Below.step BW.out BW.out.size bx) (Below.step BW.out BW.out.size bx).size bq)
   clear h2 rt bx bq
   go_wp2_with fail
   have HSZ := hide (show (w7.alloc (fqbox tw.s (sv tw.u) (sv tw.t))).heap.size = w7.heap.size + 1 by simp)
   generalize (w7.alloc (fqbox tw.s (sv tw.u) (sv tw.t))) = w8 at *
   generalize w7.heap.size = g9 at *
   have Z0 := hide (show Fg (w8.alloc (.cells #[] 41)) w8.heap.size (.slice (some ⟨g9 + 1, 0, none⟩) 0 0) [] 200 from by rw [← HSZ.out]; exact ⟨lit0 w8 w8.heap.size (Nat.le_refl _), fun x hx => by cases hx⟩)
   have B8 := hide (alloc_below w8 (.cells #[] 41))
   generalize (w8.alloc (.cells #[] 41)) = w8b at *
   obtain ⟨wo, hwo⟩ : ∃ wo, wo = wr := ⟨_, rfl⟩
   subst hwo
   go_loopw [10, 50] (fun zv iv wr => ∃ (k : Nat) (v : Sl) (zl : List Rx), k ≤ n6 ∧ zv = sv v ∧ iv = .int .i64 (k : Int) ∧ Hid (Below w8.heap.size w8 wr) ∧ Hid (Fg wr w8.heap.size (sv v) zl 200) ∧ Hid (Mns f h zl k)) (fun _ iv _ => n6 - (intOf iv).toNat)
   case atStart => exact ⟨0, (some ⟨g9 + 1, 0, none⟩, 0, 0), [], Nat.zero_le _, rfl, rfl, B8, Z0, hide ⟨rfl, fun j e h => by simp at h⟩⟩
   case round =>
    clear B8 Z0
    obtain ⟨k, ⟨zA, zn, zc⟩, zl, hk, rfl, rfl, B, ZG, MN⟩ := hrel
    by_cases hlt : k < n6
    ·obtain ⟨x, hx⟩ := len_of (d := f) (k := k) (by rw [← FL.out]; exact hlt)
     obtain ⟨y, hy⟩ := len_of (d := h) (k := k) (by rw [← HL.out]; exact hlt)
     have XF := hide (xf_in hx)
     have XH := hide (xf_in hy)
     have RX := hide (HX.out.2 x (List.mem_of_getElem? hx))
     have RY := hide (HY.out.2 y (List.mem_of_getElem? hy))
     obtain ⟨b, off, rfl, hb, hc⟩ := HX.out.1.get hx
     obtain ⟨b', off', rfl, hb', hc'⟩ := HY.out.1.get hy
     have q0 := hc 0 _ rfl
     have q0' := hc' 0 _ rfl
     rw [Nat.add_zero] at q0 q0'
     have QX := hide (And.intro hb (And.intro q0 (And.intro (hc 1 _ rfl) (hc 2 _ rfl))))
     have QY := hide (And.intro hb' (And.intro q0' (And.intro (hc' 1 _ rfl) (hc' 2 _ rfl))))
     have KP := hide (show ∀ V, Below w8.heap.size w8 V → _ ∧ _ from fun V hV => And.intro (cells3_at QX.out hV).1 (And.intro (cells3_at QX.out hV).2.1 (And.intro (cells3_at QX.out hV).2.2 (And.intro (cells3_at QY.out hV).1 (And.intro (cells3_at QY.out hV).2.1 (And.intro (cells3_at QY.out hV).2.2 (f3 (TQ.out.step hV))))))))
     have l0 : (0 : Int) ≤ (k : Int) := by omega
     have l1 : (k : Int) < (n6 : Int) := by omega
     clear hc hb hc' hb' hx hy q0 q0'
     go_wp2_with fail
     replace ZG := hide (ZG.out.step (Below.refl wr.heap.size wr).drew)
     replace B := hide (Below.step B.out B.out.size (Below.refl wr.heap.size wr).drew)
     refine wp_region_held_drew (S := fun W => W.cell? ⟨b, off + k * 3, none⟩ = some (.bool x.s) ∧ W.cell? ⟨b, off + k * 3 + 1, none⟩ = some (sv x.u) ∧ W.cell? ⟨b, off + k * 3 + 2, none⟩ = some (sv x.t) ∧ W.cell? ⟨b', off' + k * 3, none⟩ = some (.bool y.s) ∧ W.cell? ⟨b', off' + k * 3 + 1, none⟩ = some (sv y.u) ∧ W.cell? ⟨b', off' + k * 3 + 2, none⟩ = some (sv y.t) ∧ W.cell? ⟨g9, 0, none⟩ = some (.bool tw.s) ∧ W.cell? ⟨g9, 1, none⟩ = some (sv tw.u) ∧ W.cell? ⟨g9, 2, none⟩ = some (sv tw.t)) (by kernel_rfl) ?_ (fun hHeld => ?_)
     ·try dsimp only
      exact KP.out _ B.out
     generalize wr.drew = V0 at *
     refine tp 0 hHeld ?_
     try simp only [Act.put, s1, s2, s3, s4, s5, s6]
     refine tp 1 hHeld ?_
     try simp only [Act.put, s1, s2, s3, s4, s5, s6]
     refine tp 2 hHeld ?_
     try simp only [Act.put, s1, s2, s3, s4, s5, s6]
     refine tk 3 (v := ?_) hHeld ?_ ?_; rotate_left; (focus (intro w hSw; (try dsimp only at hSw); go_simp; (try with_reducible rfl)))
     try simp only [Act.put, s1, s2, s3, s4, s5, s6]
     refine tk 4 (v := ?_) hHeld ?_ ?_; rotate_left; (focus (intro w hSw; (try dsimp only at hSw); go_simp; (try with_reducible rfl)))
     try simp only [Act.put, s1, s2, s3, s4, s5, s6]
     refine tp 6 hHeld ?_
     try simp only [Act.put, s1, s2, s3, s4, s5, s6]
     refine tp 7 hHeld ?_
     try simp only [Act.put, s1, s2, s3, s4, s5, s6]
     refine tk 8 (v := ?_) hHeld ?_ ?_; rotate_left; (focus (intro w hSw; (try dsimp only at hSw); go_simp; (try with_reducible rfl)))
     try simp only [Act.put, s1, s2, s3, s4, s5, s6]
     refine tk 9 (v := ?_) hHeld ?_ ?_; rotate_left; (focus (intro w hSw; (try dsimp only at hSw); go_simp; (try with_reducible rfl)))
     try simp only [Act.put, s1, s2, s3, s4, s5, s6]
     refine tk 12 (v := ?_) hHeld ?_ ?_; rotate_left; (focus (intro w hSw; (try dsimp only at hSw); go_simp; (try with_reducible rfl)))
     try simp only [Act.put, s1, s2, s3, s4, s5, s6]
     refine r1 5 (fun K hK => ?_)
     go_simp; go_at_call 22; refine (rof_f (L := 6) (RX.out.step B.out) (by omega) (by omega)).mono ?_; rintro e V1 ⟨qx, rfl, hq, rq, bx⟩; have R_qx := hide rq; have E_qx := hide hq; replace ZG := hide (ZG.out.step bx); replace B := hide (Below.step B.out B.out.size bx); clear bx; clear hq rq; (try dsimp only); refine hK.out _ _ ?_ (fun hHeld => ?_); (focus ((try dsimp only); exact KP.out _ B.out)); clear hK K
     try simp only [Act.put, s1, s2, s3, s4, s5, s6]
     refine r1 10 (fun K hK => ?_)
     go_simp; go_at_call 22; refine (rof_f (L := 6) (RY.out.step B.out) (by omega) (by omega)).mono ?_; rintro e V2 ⟨qy, rfl, hq, rq, bx⟩; have R_qy := hide rq; have E_qy := hide hq; replace ZG := hide (ZG.out.step bx); replace R_qx := hide (R_qx.out.step bx); replace B := hide (Below.step B.out B.out.size bx); clear bx; clear hq rq; (try dsimp only); refine hK.out _ _ ?_ (fun hHeld => ?_); (focus ((try dsimp only); exact KP.out _ B.out)); clear hK K
     try simp only [Act.put, s1, s2, s3, s4, s5, s6]
     refine r1 11 (fun K hK => ?_)
     go_simp; go_at_call 28; refine (rqadd_f R_qx.out R_qy.out (by omega) (by omega) (by omega)).mono ?_; rintro e V3 ⟨qs, rfl, hq, rq, bx⟩; have R_qs := hide rq; have E_qs := hide hq; replace ZG := hide (ZG.out.step bx); replace B := hide (Below.step B.out B.out.size bx); clear bx; clear hq rq; (try dsimp only); refine hK.out _ _ ?_ (fun hHeld => ?_); (focus ((try dsimp only); exact KP.out _ B.out)); clear hK K
     try simp only [Act.put, s1, s2, s3, s4, s5, s6]
     refine r1 13 (fun K hK => ?_)
     go_simp; go_at_call 27; refine (rqdiv_any (L := 100) (R_qs.out.more (by omega)) ((TW.out.step B.out).more (by omega)) (by rw [E2.out]; decide +kernel) (by omega) (by omega)).mono ?_; rintro e V4 ⟨vd, rfl, rd, bx⟩; have R_qd := hide rd; replace ZG := hide (ZG.out.step bx); replace B := hide (Below.step B.out B.out.size bx); clear bx; clear rd; (try dsimp only); refine hK.out _ _ ?_ (fun hHeld => ?_); (focus ((try dsimp only); exact KP.out _ B.out)); clear hK K
     try simp only [Act.put, s1, s2, s3, s4, s5, s6]
     refine r1 14 (fun K hK => ?_)
     go_simp; go_at_call 26; refine (rfto_g R_qd.out (by omega)).mono ?_; rintro e V5 ⟨ze, rfl, hq, rq, bx⟩; have R_ze := hide (rq.mono (B' := w8.heap.size) B.out.size); have E_ze := hide (show ze.r = mean (xf f (k : Int)) (xf h (k : Int)) from by rw [hq, E_qs.out, E_qx.out, E_qy.out, XF.out, XH.out, E2.out, show ((2 : Int) : Rat) = (2 : Rat) by decide +kernel]; rfl); replace ZG := hide (ZG.out.step bx); replace B := hide (Below.step B.out B.out.size bx); clear bx; clear hq rq; (try dsimp only); refine hK.out _ _ ?_ (fun hHeld => ?_); (focus ((try dsimp only); exact KP.out _ B.out)); clear hK K
     try simp only [Act.put, s1, s2, s3, s4, s5, s6]
     refine r1 15 (fun K hK => ?_)
     go_simp; have bx := alloc_below V5 (.cells #[.bool ze.s, sv ze.u, sv ze.t] 41); (try dsimp only); refine hK.out _ _ ?_ (fun hHeld => ?_); (focus ((try dsimp only); exact KP.out _ (Below.step B.out B.out.size bx))); clear hK K
     try simp only [Act.put, s1, s2, s3, s4, s5, s6]
     refine r1 16 (fun K hK => ?_)
     refine step_pushE rfl (.tmp 53) (.tmp 68) 49 rfl Tryz.underlying49 hi0 hz0 hz1 hz2 rfl (by omega) er_len er_one V5 w8.heap.size _ zl ze _ rfl ZG.out.1 rfl rfl (by have := MN.out.1; have := FN.out; have := FL.out; omega) (by decide) B.out.size ?_; intro v9 V7 ho hg; obtain ⟨A9, n9, c9, rfl⟩ := rv_sl (ho.rl er_len); have ZN := hide (ZG.out.push ho hg.1 R_ze.out); have BN := hide (below_own B.out ZG.out.1 hg.1 B.out.size); clear ho hg; (try dsimp only); refine hK.out _ _ ?_ (fun hHeld => ?_); (focus ((try dsimp only); exact KP.out _ BN.out)); clear hK K
     try simp only [Act.put, s1, s2, s3, s4, s5, s6]
     refine tp 17 hHeld ?_
     try simp only [Act.put, s1, s2, s3, s4, s5, s6]
     refine wpAnyH_done (by kernel_rfl) ?_ _
     go_wp2_with fail
     have MN2 := hide (MN.out.next E_ze.out)
     exact ⟨⟨k + 1, (A9, n9, c9), zl ++ [ze], by omega, rfl, by go_num, BN, ZN, MN2⟩, by simp [intOf]; omega⟩
    ·obtain rfl : n6 = k := by omega
     have MNA := hide (show Mns f h zl f.length by rw [← FL.out]; exact MN.out)
     have ZF := hide ZG.out.fv
     replace HQ := hide (HQ.out.step B.out)
     replace HX := hide (HX.out.step B.out)
     replace HY := hide (HY.out.step B.out)
     replace PQ := hide (PQ.out.step B.out)
     replace TQ := hide (TQ.out.step B.out)
     replace TW := hide (TW.out.step B.out)
     replace BW := hide (Below.step BW.out BW.out.size B.out)
     clear ZG MN B
     go_wp2_with fail
     obtain ⟨w9, hw9⟩ : ∃ w9, w9 = wr := ⟨_, rfl⟩
     subst hw9
     go_cut [12] from 71 to 79 (fun s12 wx => ∃ g12 sm9, s12 = .pointer (some ⟨g12, 0, none⟩) ∧ Fq wx g12 sm9.s (sv sm9.u) (sv sm9.t) ∧ Rf wx (rx sm9) sm9.r 200000 ∧ sm9.r = cst ⟨nm, ob, (QA, qn, qc), rows, (UA, un, uc), cur⟩ f + cst ⟨nm, ob, (QA, qn, qc), rows, (UA, un, uc), cur⟩ h ∧ Below w9.heap.size w9 wx)
     case first =>
      have B := hide ((Below.refl w9.heap.size w9).drew)
      refine wp_region_held_drew (S := fun W => W.cell? ⟨g7, 0, none⟩ = some (.string nm) ∧ W.cell? ⟨g7, 1, none⟩ = some (.string ob) ∧ W.cell? ⟨g7, 2, none⟩ = some (.slice QA qn qc) ∧ W.cell? ⟨g7, 3, none⟩ = some (.slice UA un uc)) (by kernel_rfl) ?_ (fun hHeld => ?_)
      ·try dsimp only
       exact (PQ.out.step B.out).alls
      generalize w9.drew = V0 at *
      refine tk 0 (v := ?_) hHeld ?_ ?_; rotate_left; (focus (intro w hSw; (try dsimp only at hSw); go_simp; (try with_reducible rfl)))
      refine tp 1 hHeld ?_
      refine tk 4 (v := ?_) hHeld ?_ ?_; rotate_left; (focus (intro w hSw; (try dsimp only at hSw); go_simp; (try with_reducible rfl)))
      refine tp 5 hHeld ?_
      try simp only [Act.put, s1, s2, s3, s4, s5, s6]
      refine r2 2 9 (fun K hK => ?_) (fun K hK => ?_)
      ·go_simp; go_at_call 29; refine (mcost_c (L := 6) (K := 6) (HQ.out.step B.out) (HX.out.step B.out) QN.out (by omega) (by omega) (by omega) (by omega)).mono ?_; rintro e V1 ⟨ca, rfl, hq, rq, bx⟩; have R_ca := hide rq.ra; have E_ca := hide hq; replace B := hide (Below.step B.out B.out.size bx); clear bx; clear hq rq; (try dsimp only); refine hK.out _ _ ?_ (fun hHeld => ?_); (focus ((try dsimp only); exact (PQ.out.step B.out).alls)); clear hK K
       try simp only [Act.put, s1, s2, s3, s4, s5, s6]
       refine r2 3 9 (fun K hK => ?_) (fun K hK => ?_)
       ·go_simp; go_at_call 22; refine (rof_f R_ca.out (by omega) (by omega)).mono ?_; rintro e V2 ⟨oa, rfl, hq, rq, bx⟩; have R_oa := hide rq; have E_oa := hide (hq.trans E_ca.out); replace R_ca := hide (R_ca.out.step bx); replace B := hide (Below.step B.out B.out.size bx); clear bx; clear hq rq; (try dsimp only); refine hK.out _ _ ?_ (fun hHeld => ?_); (focus ((try dsimp only); exact (PQ.out.step B.out).alls)); clear hK K
        try simp only [Act.put, s1, s2, s3, s4, s5, s6]
        refine r2 6 9 (fun K hK => ?_) (fun K hK => ?_)
        ·go_simp; go_at_call 29; refine (mcost_c (L := 6) (K := 6) (HQ.out.step B.out) (HY.out.step B.out) QN.out (by omega) (by omega) (by omega) (by omega)).mono ?_; rintro e V3 ⟨cb, rfl, hq, rq, bx⟩; have R_cb := hide rq.ra; have E_cb := hide hq; replace R_ca := hide (R_ca.out.step bx); replace R_oa := hide (R_oa.out.step bx); replace B := hide (Below.step B.out B.out.size bx); clear bx; clear hq rq; (try dsimp only); refine hK.out _ _ ?_ (fun hHeld => ?_); (focus ((try dsimp only); exact (PQ.out.step B.out).alls)); clear hK K
         try simp only [Act.put, s1, s2, s3, s4, s5, s6]
         refine r2 7 9 (fun K hK => ?_) (fun K hK => ?_)
         ·go_simp; go_at_call 22; refine (rof_f R_cb.out (by omega) (by omega)).mono ?_; rintro e V4 ⟨ob, rfl, hq, rq, bx⟩; have R_ob := hide rq; have E_ob := hide (hq.trans E_cb.out); replace R_ca := hide (R_ca.out.step bx); replace R_oa := hide (R_oa.out.step bx); replace R_cb := hide (R_cb.out.step bx); replace B := hide (Below.step B.out B.out.size bx); clear bx; clear hq rq; (try dsimp only); refine hK.out _ _ ?_ (fun hHeld => ?_); (focus ((try dsimp only); exact (PQ.out.step B.out).alls)); clear hK K
          try simp only [Act.put, s1, s2, s3, s4, s5, s6]
          refine r2 8 9 (fun K hK => ?_) (fun K hK => ?_)
          ·go_simp; go_at_call 28; refine (rqadd_f R_oa.out R_ob.out (by omega) (by omega) (by omega)).mono ?_; rintro e V5 ⟨sm9, rfl, hq, rq, bx⟩; have R_sm9 := hide rq; have E_sm9 := hide hq; replace R_ca := hide (R_ca.out.step bx); replace R_oa := hide (R_oa.out.step bx); replace R_cb := hide (R_cb.out.step bx); replace R_ob := hide (R_ob.out.step bx); replace B := hide (Below.step B.out B.out.size bx); clear bx; clear hq rq; (try dsimp only); refine hK.out _ _ ?_ (fun hHeld => ?_); (focus ((try dsimp only); exact (PQ.out.step B.out).alls)); clear hK K
           try simp only [Act.put, s1, s2, s3, s4, s5, s6]
           refine r1 9 (fun K hK => ?_)
           go_simp; have bx := alloc_below V5 fqblk; have ZB := hide (show Zq9 w9 V5.heap.size (V5.alloc fqblk) from ⟨B.out.size, heap_alloc_new V5 _⟩); replace R_ca := hide (R_ca.out.step bx); replace R_oa := hide (R_oa.out.step bx); replace R_cb := hide (R_cb.out.step bx); replace R_ob := hide (R_ob.out.step bx); replace R_sm9 := hide (R_sm9.out.step bx); replace B := hide (Below.step B.out B.out.size bx); clear bx; generalize (V5.alloc fqblk) = V6 at *; generalize V5.heap.size = g12 at *; (try dsimp only); refine hK.out _ _ ?_ (fun hHeld => ?_); (focus ((try dsimp only); exact (PQ.out.step B.out).alls)); clear hK K
           try simp only [Act.put, s1, s2, s3, s4, s5, s6]
           refine r1 10 (fun K hK => ?_)
           obtain ⟨V7, hV, ⟨k0, k1, k2⟩, ⟨f0, f1, f2⟩, hf, hb, hrf⟩ := ZB.out.put sm9 R_sm9.out B.out; go_simp; (try rw [hV]); have FQ := hide hf; have BQ := hide hb; have RQ := hide hrf; clear hV k0 k1 k2 f0 f1 f2 hf hb hrf; (try dsimp only); refine hK.out _ _ ?_ (fun hHeld => ?_); (focus ((try dsimp only); exact (PQ.out.step BQ.out).alls)); clear hK K
           refine wpAnyH_done (by kernel_rfl) ?_ _
           go_wp2_with fail; go_meet; exact ⟨g12, sm9, rfl, FQ.out, RQ.out.more (by omega), E_sm9.out.trans (by rw [E_oa.out, E_ob.out]), BQ.out⟩
          ·go_simp; have bx := alloc_below V4 fqblk; have ZB := hide (show Zq9 w9 V4.heap.size (V4.alloc fqblk) from ⟨B.out.size, heap_alloc_new V4 _⟩); replace R_ca := hide (R_ca.out.step bx); replace R_oa := hide (R_oa.out.step bx); replace R_cb := hide (R_cb.out.step bx); replace R_ob := hide (R_ob.out.step bx); replace B := hide (Below.step B.out B.out.size bx); clear bx; generalize (V4.alloc fqblk) = V5 at *; generalize V4.heap.size = g12 at *; (try dsimp only); refine hK.out _ _ ?_ (fun hHeld => ?_); (focus ((try dsimp only); exact (PQ.out.step B.out).alls)); clear hK K
           try simp only [Act.put, s1, s2, s3, s4, s5, s6]
           refine r1 8 (fun K hK => ?_)
           go_simp; go_at_call 28; refine (rqadd_f R_oa.out R_ob.out (by omega) (by omega) (by omega)).mono ?_; rintro e V6 ⟨sm9, rfl, hq, rq, bx⟩; have R_sm9 := hide rq; have E_sm9 := hide hq; replace R_ca := hide (R_ca.out.step bx); replace R_oa := hide (R_oa.out.step bx); replace R_cb := hide (R_cb.out.step bx); replace R_ob := hide (R_ob.out.step bx); replace ZB := hide (ZB.out.step bx); replace B := hide (Below.step B.out B.out.size bx); clear bx; clear hq rq; (try dsimp only); refine hK.out _ _ ?_ (fun hHeld => ?_); (focus ((try dsimp only); exact (PQ.out.step B.out).alls)); clear hK K
           try simp only [Act.put, s1, s2, s3, s4, s5, s6]
           refine r1 10 (fun K hK => ?_)
           obtain ⟨V7, hV, ⟨k0, k1, k2⟩, ⟨f0, f1, f2⟩, hf, hb, hrf⟩ := ZB.out.put sm9 R_sm9.out B.out; go_simp; (try rw [hV]); have FQ := hide hf; have BQ := hide hb; have RQ := hide hrf; clear hV k0 k1 k2 f0 f1 f2 hf hb hrf; (try dsimp only); refine hK.out _ _ ?_ (fun hHeld => ?_); (focus ((try dsimp only); exact (PQ.out.step BQ.out).alls)); clear hK K
           refine wpAnyH_done (by kernel_rfl) ?_ _
           go_wp2_with fail; go_meet; exact ⟨g12, sm9, rfl, FQ.out, RQ.out.more (by omega), E_sm9.out.trans (by rw [E_oa.out, E_ob.out]), BQ.out⟩
         ·go_simp; have bx := alloc_below V3 fqblk; have ZB := hide (show Zq9 w9 V3.heap.size (V3.alloc fqblk) from ⟨B.out.size, heap_alloc_new V3 _⟩); replace R_ca := hide (R_ca.out.step bx); replace R_oa := hide (R_oa.out.step bx); replace R_cb := hide (R_cb.out.step bx); replace B := hide (Below.step B.out B.out.size bx); clear bx; generalize (V3.alloc fqblk) = V4 at *; generalize V3.heap.size = g12 at *; (try dsimp only); refine hK.out _ _ ?_ (fun hHeld => ?_); (focus ((try dsimp only); exact (PQ.out.step B.out).alls)); clear hK K
          try simp only [Act.put, s1, s2, s3, s4, s5, s6]
          refine r1 7 (fun K hK => ?_)
          go_simp; go_at_call 22; refine (rof_f R_cb.out (by omega) (by omega)).mono ?_; rintro e V5 ⟨ob, rfl, hq, rq, bx⟩; have R_ob := hide rq; have E_ob := hide (hq.trans E_cb.out); replace R_ca := hide (R_ca.out.step bx); replace R_oa := hide (R_oa.out.step bx); replace R_cb := hide (R_cb.out.step bx); replace ZB := hide (ZB.out.step bx); replace B := hide (Below.step B.out B.out.size bx); clear bx; clear hq rq; (try dsimp only); refine hK.out _ _ ?_ (fun hHeld => ?_); (focus ((try dsimp only); exact (PQ.out.step B.out).alls)); clear hK K
          try simp only [Act.put, s1, s2, s3, s4, s5, s6]
          refine r1 8 (fun K hK => ?_)
          go_simp; go_at_call 28; refine (rqadd_f R_oa.out R_ob.out (by omega) (by omega) (by omega)).mono ?_; rintro e V6 ⟨sm9, rfl, hq, rq, bx⟩; have R_sm9 := hide rq; have E_sm9 := hide hq; replace R_ca := hide (R_ca.out.step bx); replace R_oa := hide (R_oa.out.step bx); replace R_cb := hide (R_cb.out.step bx); replace ZB := hide (ZB.out.step bx); replace R_ob := hide (R_ob.out.step bx); replace B := hide (Below.step B.out B.out.size bx); clear bx; clear hq rq; (try dsimp only); refine hK.out _ _ ?_ (fun hHeld => ?_); (focus ((try dsimp only); exact (PQ.out.step B.out).alls)); clear hK K
          try simp only [Act.put, s1, s2, s3, s4, s5, s6]
          refine r1 10 (fun K hK => ?_)
          obtain ⟨V7, hV, ⟨k0, k1, k2⟩, ⟨f0, f1, f2⟩, hf, hb, hrf⟩ := ZB.out.put sm9 R_sm9.out B.out; go_simp; (try rw [hV]); have FQ := hide hf; have BQ := hide hb; have RQ := hide hrf; clear hV k0 k1 k2 f0 f1 f2 hf hb hrf; (try dsimp only); refine hK.out _ _ ?_ (fun hHeld => ?_); (focus ((try dsimp only); exact (PQ.out.step BQ.out).alls)); clear hK K
          refine wpAnyH_done (by kernel_rfl) ?_ _
          go_wp2_with fail; go_meet; exact ⟨g12, sm9, rfl, FQ.out, RQ.out.more (by omega), E_sm9.out.trans (by rw [E_oa.out, E_ob.out]), BQ.out⟩
        ·go_simp; have bx := alloc_below V2 fqblk; have ZB := hide (show Zq9 w9 V2.heap.size (V2.alloc fqblk) from ⟨B.out.size, heap_alloc_new V2 _⟩); replace R_ca := hide (R_ca.out.step bx); replace R_oa := hide (R_oa.out.step bx); replace B := hide (Below.step B.out B.out.size bx); clear bx; generalize (V2.alloc fqblk) = V3 at *; generalize V2.heap.size = g12 at *; (try dsimp only); refine hK.out _ _ ?_ (fun hHeld => ?_); (focus ((try dsimp only); exact (PQ.out.step B.out).alls)); clear hK K
         try simp only [Act.put, s1, s2, s3, s4, s5, s6]
         refine r1 6 (fun K hK => ?_)
         go_simp; go_at_call 29; refine (mcost_c (L := 6) (K := 6) (HQ.out.step B.out) (HY.out.step B.out) QN.out (by omega) (by omega) (by omega) (by omega)).mono ?_; rintro e V4 ⟨cb, rfl, hq, rq, bx⟩; have R_cb := hide rq.ra; have E_cb := hide hq; replace R_ca := hide (R_ca.out.step bx); replace R_oa := hide (R_oa.out.step bx); replace ZB := hide (ZB.out.step bx); replace B := hide (Below.step B.out B.out.size bx); clear bx; clear hq rq; (try dsimp only); refine hK.out _ _ ?_ (fun hHeld => ?_); (focus ((try dsimp only); exact (PQ.out.step B.out).alls)); clear hK K
         try simp only [Act.put, s1, s2, s3, s4, s5, s6]
         refine r1 7 (fun K hK => ?_)
         go_simp; go_at_call 22; refine (rof_f R_cb.out (by omega) (by omega)).mono ?_; rintro e V5 ⟨ob, rfl, hq, rq, bx⟩; have R_ob := hide rq; have E_ob := hide (hq.trans E_cb.out); replace R_ca := hide (R_ca.out.step bx); replace R_oa := hide (R_oa.out.step bx); replace ZB := hide (ZB.out.step bx); replace R_cb := hide (R_cb.out.step bx); replace B := hide (Below.step B.out B.out.size bx); clear bx; clear hq rq; (try dsimp only); refine hK.out _ _ ?_ (fun hHeld => ?_); (focus ((try dsimp only); exact (PQ.out.step B.out).alls)); clear hK K
         try simp only [Act.put, s1, s2, s3, s4, s5, s6]
         refine r1 8 (fun K hK => ?_)
         go_simp; go_at_call 28; refine (rqadd_f R_oa.out R_ob.out (by omega) (by omega) (by omega)).mono ?_; rintro e V6 ⟨sm9, rfl, hq, rq, bx⟩; have R_sm9 := hide rq; have E_sm9 := hide hq; replace R_ca := hide (R_ca.out.step bx); replace R_oa := hide (R_oa.out.step bx); replace ZB := hide (ZB.out.step bx); replace R_cb := hide (R_cb.out.step bx); replace R_ob := hide (R_ob.out.step bx); replace B := hide (Below.step B.out B.out.size bx); clear bx; clear hq rq; (try dsimp only); refine hK.out _ _ ?_ (fun hHeld => ?_); (focus ((try dsimp only); exact (PQ.out.step B.out).alls)); clear hK K
         try simp only [Act.put, s1, s2, s3, s4, s5, s6]
         refine r1 10 (fun K hK => ?_)
         obtain ⟨V7, hV, ⟨k0, k1, k2⟩, ⟨f0, f1, f2⟩, hf, hb, hrf⟩ := ZB.out.put sm9 R_sm9.out B.out; go_simp; (try rw [hV]); have FQ := hide hf; have BQ := hide hb; have RQ := hide hrf; clear hV k0 k1 k2 f0 f1 f2 hf hb hrf; (try dsimp only); refine hK.out _ _ ?_ (fun hHeld => ?_); (focus ((try dsimp only); exact (PQ.out.step BQ.out).alls)); clear hK K
         refine wpAnyH_done (by kernel_rfl) ?_ _
         go_wp2_with fail; go_meet; exact ⟨g12, sm9, rfl, FQ.out, RQ.out.more (by omega), E_sm9.out.trans (by rw [E_oa.out, E_ob.out]), BQ.out⟩
       ·go_simp; have bx := alloc_below V1 fqblk; have ZB := hide (show Zq9 w9 V1.heap.size (V1.alloc fqblk) from ⟨B.out.size, heap_alloc_new V1 _⟩); replace R_ca := hide (R_ca.out.step bx); replace B := hide (Below.step B.out B.out.size bx); clear bx; generalize (V1.alloc fqblk) = V2 at *; generalize V1.heap.size = g12 at *; (try dsimp only); refine hK.out _ _ ?_ (fun hHeld => ?_); (focus ((try dsimp only); exact (PQ.out.step B.out).alls)); clear hK K
        try simp only [Act.put, s1, s2, s3, s4, s5, s6]
        refine r1 3 (fun K hK => ?_)
        go_simp; go_at_call 22; refine (rof_f R_ca.out (by omega) (by omega)).mono ?_; rintro e V3 ⟨oa, rfl, hq, rq, bx⟩; have R_oa := hide rq; have E_oa := hide (hq.trans E_ca.out); replace R_ca := hide (R_ca.out.step bx); replace ZB := hide (ZB.out.step bx); replace B := hide (Below.step B.out B.out.size bx); clear bx; clear hq rq; (try dsimp only); refine hK.out _ _ ?_ (fun hHeld => ?_); (focus ((try dsimp only); exact (PQ.out.step B.out).alls)); clear hK K
        try simp only [Act.put, s1, s2, s3, s4, s5, s6]
        refine r1 6 (fun K hK => ?_)
        go_simp; go_at_call 29; refine (mcost_c (L := 6) (K := 6) (HQ.out.step B.out) (HY.out.step B.out) QN.out (by omega) (by omega) (by omega) (by omega)).mono ?_; rintro e V4 ⟨cb, rfl, hq, rq, bx⟩; have R_cb := hide rq.ra; have E_cb := hide hq; replace R_ca := hide (R_ca.out.step bx); replace ZB := hide (ZB.out.step bx); replace R_oa := hide (R_oa.out.step bx); replace B := hide (Below.step B.out B.out.size bx); clear bx; clear hq rq; (try dsimp only); refine hK.out _ _ ?_ (fun hHeld => ?_); (focus ((try dsimp only); exact (PQ.out.step B.out).alls)); clear hK K
        try simp only [Act.put, s1, s2, s3, s4, s5, s6]
        refine r1 7 (fun K hK => ?_)
        go_simp; go_at_call 22; refine (rof_f R_cb.out (by omega) (by omega)).mono ?_; rintro e V5 ⟨ob, rfl, hq, rq, bx⟩; have R_ob := hide rq; have E_ob := hide (hq.trans E_cb.out); replace R_ca := hide (R_ca.out.step bx); replace ZB := hide (ZB.out.step bx); replace R_oa := hide (R_oa.out.step bx); replace R_cb := hide (R_cb.out.step bx); replace B := hide (Below.step B.out B.out.size bx); clear bx; clear hq rq; (try dsimp only); refine hK.out _ _ ?_ (fun hHeld => ?_); (focus ((try dsimp only); exact (PQ.out.step B.out).alls)); clear hK K
        try simp only [Act.put, s1, s2, s3, s4, s5, s6]
        refine r1 8 (fun K hK => ?_)
        go_simp; go_at_call 28; refine (rqadd_f R_oa.out R_ob.out (by omega) (by omega) (by omega)).mono ?_; rintro e V6 ⟨sm9, rfl, hq, rq, bx⟩; have R_sm9 := hide rq; have E_sm9 := hide hq; replace R_ca := hide (R_ca.out.step bx); replace ZB := hide (ZB.out.step bx); replace R_oa := hide (R_oa.out.step bx); replace R_cb := hide (R_cb.out.step bx); replace R_ob := hide (R_ob.out.step bx); replace B := hide (Below.step B.out B.out.size bx); clear bx; clear hq rq; (try dsimp only); refine hK.out _ _ ?_ (fun hHeld => ?_); (focus ((try dsimp only); exact (PQ.out.step B.out).alls)); clear hK K
        try simp only [Act.put, s1, s2, s3, s4, s5, s6]
        refine r1 10 (fun K hK => ?_)
        obtain ⟨V7, hV, ⟨k0, k1, k2⟩, ⟨f0, f1, f2⟩, hf, hb, hrf⟩ := ZB.out.put sm9 R_sm9.out B.out; go_simp; (try rw [hV]); have FQ := hide hf; have BQ := hide hb; have RQ := hide hrf; clear hV k0 k1 k2 f0 f1 f2 hf hb hrf; (try dsimp only); refine hK.out _ _ ?_ (fun hHeld => ?_); (focus ((try dsimp only); exact (PQ.out.step BQ.out).alls)); clear hK K
        refine wpAnyH_done (by kernel_rfl) ?_ _
        go_wp2_with fail; go_meet; exact ⟨g12, sm9, rfl, FQ.out, RQ.out.more (by omega), E_sm9.out.trans (by rw [E_oa.out, E_ob.out]), BQ.out⟩
      ·go_simp; have bx := alloc_below V0 fqblk; have ZB := hide (show Zq9 w9 V0.heap.size (V0.alloc fqblk) from ⟨B.out.size, heap_alloc_new V0 _⟩); replace B := hide (Below.step B.out B.out.size bx); clear bx; generalize (V0.alloc fqblk) = V1 at *; generalize V0.heap.size = g12 at *; (try dsimp only); refine hK.out _ _ ?_ (fun hHeld => ?_); (focus ((try dsimp only); exact (PQ.out.step B.out).alls)); clear hK K
       try simp only [Act.put, s1, s2, s3, s4, s5, s6]
       refine r1 2 (fun K hK => ?_)
       go_simp; go_at_call 29; refine (mcost_c (L := 6) (K := 6) (HQ.out.step B.out) (HX.out.step B.out) QN.out (by omega) (by omega) (by omega) (by omega)).mono ?_; rintro e V2 ⟨ca, rfl, hq, rq, bx⟩; have R_ca := hide rq.ra; have E_ca := hide hq; replace ZB := hide (ZB.out.step bx); replace B := hide (Below.step B.out B.out.size bx); clear bx; clear hq rq; (try dsimp only); refine hK.out _ _ ?_ (fun hHeld => ?_); (focus ((try dsimp only); exact (PQ.out.step B.out).alls)); clear hK K
       try simp only [Act.put, s1, s2, s3, s4, s5, s6]
       refine r1 3 (fun K hK => ?_)
       go_simp; go_at_call 22; refine (rof_f R_ca.out (by omega) (by omega)).mono ?_; rintro e V3 ⟨oa, rfl, hq, rq, bx⟩; have R_oa := hide rq; have E_oa := hide (hq.trans E_ca.out); replace ZB := hide (ZB.out.step bx); replace R_ca := hide (R_ca.out.step bx); replace B := hide (Below.step B.out B.out.size bx); clear bx; clear hq rq; (try dsimp only); refine hK.out _ _ ?_ (fun hHeld => ?_); (focus ((try dsimp only); exact (PQ.out.step B.out).alls)); clear hK K
       try simp only [Act.put, s1, s2, s3, s4, s5, s6]
       refine r1 6 (fun K hK => ?_)
       go_simp; go_at_call 29; refine (mcost_c (L := 6) (K := 6) (HQ.out.step B.out) (HY.out.step B.out) QN.out (by omega) (by omega) (by omega) (by omega)).mono ?_; rintro e V4 ⟨cb, rfl, hq, rq, bx⟩; have R_cb := hide rq.ra; have E_cb := hide hq; replace ZB := hide (ZB.out.step bx); replace R_ca := hide (R_ca.out.step bx); replace R_oa := hide (R_oa.out.step bx); replace B := hide (Below.step B.out B.out.size bx); clear bx; clear hq rq; (try dsimp only); refine hK.out _ _ ?_ (fun hHeld => ?_); (focus ((try dsimp only); exact (PQ.out.step B.out).alls)); clear hK K
       try simp only [Act.put, s1, s2, s3, s4, s5, s6]
       refine r1 7 (fun K hK => ?_)
       go_simp; go_at_call 22; refine (rof_f R_cb.out (by omega) (by omega)).mono ?_; rintro e V5 ⟨ob, rfl, hq, rq, bx⟩; have R_ob := hide rq; have E_ob := hide (hq.trans E_cb.out); replace ZB := hide (ZB.out.step bx); replace R_ca := hide (R_ca.out.step bx); replace R_oa := hide (R_oa.out.step bx); replace R_cb := hide (R_cb.out.step bx); replace B := hide (Below.step B.out B.out.size bx); clear bx; clear hq rq; (try dsimp only); refine hK.out _ _ ?_ (fun hHeld => ?_); (focus ((try dsimp only); exact (PQ.out.step B.out).alls)); clear hK K
       try simp only [Act.put, s1, s2, s3, s4, s5, s6]
       refine r1 8 (fun K hK => ?_)
       go_simp; go_at_call 28; refine (rqadd_f R_oa.out R_ob.out (by omega) (by omega) (by omega)).mono ?_; rintro e V6 ⟨sm9, rfl, hq, rq, bx⟩; have R_sm9 := hide rq; have E_sm9 := hide hq; replace ZB := hide (ZB.out.step bx); replace R_ca := hide (R_ca.out.step bx); replace R_oa := hide (R_oa.out.step bx); replace R_cb := hide (R_cb.out.step bx); replace R_ob := hide (R_ob.out.step bx); replace B := hide (Below.step B.out B.out.size bx); clear bx; clear hq rq; (try dsimp only); refine hK.out _ _ ?_ (fun hHeld => ?_); (focus ((try dsimp only); exact (PQ.out.step B.out).alls)); clear hK K
       try simp only [Act.put, s1, s2, s3, s4, s5, s6]
       refine r1 10 (fun K hK => ?_)
       obtain ⟨V7, hV, ⟨k0, k1, k2⟩, ⟨f0, f1, f2⟩, hf, hb, hrf⟩ := ZB.out.put sm9 R_sm9.out B.out; go_simp; (try rw [hV]); have FQ := hide hf; have BQ := hide hb; have RQ := hide hrf; clear hV k0 k1 k2 f0 f1 f2 hf hb hrf; (try dsimp only); refine hK.out _ _ ?_ (fun hHeld => ?_); (focus ((try dsimp only); exact (PQ.out.step BQ.out).alls)); clear hK K
       refine wpAnyH_done (by kernel_rfl) ?_ _
       go_wp2_with fail; go_meet; exact ⟨g12, sm9, rfl, FQ.out, RQ.out.more (by omega), E_sm9.out.trans (by rw [E_oa.out, E_ob.out]), BQ.out⟩
     case rest =>
      obtain ⟨g12, sm9, rfl, fq, rq, es, bx⟩ := hcut
      have FQ := hide fq
      have RQ := hide rq
      have ESM := hide es
      replace HQ := hide (HQ.out.step bx)
      replace HX := hide (HX.out.step bx)
      replace HY := hide (HY.out.step bx)
      replace PQ := hide (PQ.out.step bx)
      replace TQ := hide (TQ.out.step bx)
      replace TW := hide (TW.out.step bx)
      replace ZF := hide (ZF.out.step bx)
      replace BW := hide (Below.step BW.out BW.out.size bx)
      clear fq rq es bx
      obtain ⟨wd, hwd⟩ : ∃ wd, wd = wc := ⟨_, rfl⟩
      subst hwd
      go_wp2_with fail
      have B := hide ((Below.refl wd.heap.size wd).drew)
      refine wp_region_held_drew (S := fun W => (W.cell? ⟨g7, 0, none⟩ = some (.string nm) ∧ W.cell? ⟨g7, 1, none⟩ = some (.string ob) ∧ W.cell? ⟨g7, 2, none⟩ = some (.slice QA qn qc) ∧ W.cell? ⟨g7, 3, none⟩ = some (.slice UA un uc)) ∧ (W.cell? ⟨g9, 0, none⟩ = some (.bool tw.s) ∧ W.cell? ⟨g9, 1, none⟩ = some (sv tw.u) ∧ W.cell? ⟨g9, 2, none⟩ = some (sv tw.t)) ∧ (W.cell? ⟨g12, 0, none⟩ = some (.bool sm9.s) ∧ W.cell? ⟨g12, 1, none⟩ = some (sv sm9.u) ∧ W.cell? ⟨g12, 2, none⟩ = some (sv sm9.t))) (by kernel_rfl) ?_ (fun hHeld => ?_)
      ·try dsimp only
       exact And.intro (PQ.out.step B.out).alls (And.intro (f3 (TQ.out.step B.out)) (f3 (FQ.out.step B.out)))
      generalize wd.drew = V0 at *
      refine tk 0 (v := ?_) hHeld ?_ ?_; rotate_left; (focus (intro w hSw; (try dsimp only at hSw); go_simp; (try with_reducible rfl)))
      try simp only [Act.put, s1, s2, s3, s4, s5, s6]
      refine tk 1 (v := ?_) hHeld ?_ ?_; rotate_left; (focus (intro w hSw; (try dsimp only at hSw); go_simp; (try with_reducible rfl)))
      try simp only [Act.put, s1, s2, s3, s4, s5, s6]
      refine tp 2 hHeld ?_
      try simp only [Act.put, s1, s2, s3, s4, s5, s6]
      refine tk 6 (v := ?_) hHeld ?_ ?_; rotate_left; (focus (intro w hSw; (try dsimp only at hSw); go_simp; (try with_reducible rfl)))
      try simp only [Act.put, s1, s2, s3, s4, s5, s6]
      refine r1 3 (fun K hK => ?_)
      go_simp; go_at_call 29; refine (mcost_c (L := 6) (K := 200) (HQ.out.step B.out) (ZF.out.step B.out) QN.out (by omega) (by omega) (by omega) (by omega)).mono ?_; rintro e V1 ⟨cz, rfl, hq, rq, bx⟩; have R_cz := hide rq.ra; have E_cz := hide hq; replace B := hide (Below.step B.out B.out.size bx); clear hq rq bx; (try dsimp only); refine hK.out _ _ ?_ (fun hHeld => ?_); (focus ((try dsimp only); exact And.intro (PQ.out.step B.out).alls (And.intro (f3 (TQ.out.step B.out)) (f3 (FQ.out.step B.out))))); clear hK K
      try simp only [Act.put, s1, s2, s3, s4, s5, s6]
      refine r1 4 (fun K hK => ?_)
      go_simp; go_at_call 22; refine (rof_f R_cz.out (by omega) (by omega)).mono ?_; rintro e V2 ⟨oz, rfl, hq, rq, bx⟩; have R_oz := hide rq; have E_oz := hide (hq.trans E_cz.out); replace B := hide (Below.step B.out B.out.size bx); clear hq rq bx; (try dsimp only); refine hK.out _ _ ?_ (fun hHeld => ?_); (focus ((try dsimp only); exact And.intro (PQ.out.step B.out).alls (And.intro (f3 (TQ.out.step B.out)) (f3 (FQ.out.step B.out))))); clear hK K
      try simp only [Act.put, s1, s2, s3, s4, s5, s6]
      refine r1 5 (fun K hK => ?_)
      go_simp; go_at_call 30; refine (rqmul_f (TW.out.step B.out) R_oz.out (by omega) (by omega) (by omega)).mono ?_; rintro e V3 ⟨mz, rfl, hq, rq, bx⟩; have R_mz := hide rq; have E_mz := hide hq; replace B := hide (Below.step B.out B.out.size bx); clear hq rq bx; (try dsimp only); refine hK.out _ _ ?_ (fun hHeld => ?_); (focus ((try dsimp only); exact And.intro (PQ.out.step B.out).alls (And.intro (f3 (TQ.out.step B.out)) (f3 (FQ.out.step B.out))))); clear hK K
      try simp only [Act.put, s1, s2, s3, s4, s5, s6]
      refine r1 7 (fun K hK => ?_)
      go_simp; go_at_call 20; refine (rqcmp_s (L := 2000000) (R_mz.out.more (by omega)) ((RQ.out.step B.out).more (by omega)) (by omega) (by omega)).mono ?_; rintro e V4 ⟨rfl, bx⟩; have EC := hide (show cmpR mz.r sm9.r = 0 from cmp_eq0.2 (by rw [E_mz.out, E2.out, E_oz.out, ESM.out]; exact cst_mean MNA.out LXY.out)); rw [EC.out]; replace B := hide (Below.step B.out B.out.size bx); clear bx; (try dsimp only); refine hK.out _ _ ?_ (fun hHeld => ?_); (focus ((try dsimp only); exact And.intro (PQ.out.step B.out).alls (And.intro (f3 (TQ.out.step B.out)) (f3 (FQ.out.step B.out))))); clear hK K
      try simp only [Act.put, s1, s2, s3, s4, s5, s6]
      refine tk 8 (v := ?_) hHeld ?_ ?_; rotate_left; (focus (intro w hSw; (try dsimp only at hSw); go_simp; (try with_reducible rfl)))
      try simp only [Act.put, s1, s2, s3, s4, s5, s6]
      refine wpAnyH_done (by kernel_rfl) ?_ _
      obtain ⟨p0, p1, p2, p3⟩ := (PQ.out.step B.out).alls
      go_wp2_with fail
      refine (mholds_c (L := 6) (K := 6) (HQ.out.step B.out) (HX.out.step B.out) QLN.out (by omega) (by omega) (by omega) (by omega)).mono ?_
      rintro e wf ⟨⟨o1, rfl, ho1⟩, bx⟩
      have H1 := hide ho1
      replace B := hide (Below.step B.out B.out.size bx)
      clear ho1 bx p0 p1 p2 p3
      obtain ⟨p0, p1, p2, p3⟩ := (PQ.out.step B.out).alls
      cases o1
      case false =>
       go_wp2_with fail
       go_ret
       exact ⟨rfl, Below.step BW.out BW.out.size B.out⟩
      have G1 := hide (H1.out.1 rfl)
      clear H1
      go_wp2_with fail
      refine (mholds_c (L := 6) (K := 6) (HQ.out.step B.out) (HY.out.step B.out) QLN.out (by omega) (by omega) (by omega) (by omega)).mono ?_
      rintro e wg ⟨⟨o2, rfl, ho2⟩, bx⟩
      have H2 := hide ho2
      replace B := hide (Below.step B.out B.out.size bx)
      clear ho2 bx p0 p1 p2 p3
      obtain ⟨p0, p1, p2, p3⟩ := (PQ.out.step B.out).alls
      cases o2
      case false =>
       go_wp2_with fail
       go_ret
       exact ⟨rfl, Below.step BW.out BW.out.size B.out⟩
      have G2 := hide (H2.out.1 rfl)
      clear H2
      go_wp2_with fail
      refine (mholds_c (L := 6) (K := 200) (HQ.out.step B.out) (ZF.out.step B.out) QLN.out (by omega) (by omega) (by omega) (by omega)).mono ?_
      rintro e wh ⟨hb3, bx⟩
      obtain rfl := hb3.tr ⟨by rw [MNA.out.1]; exact G1.out.1, hlds_mean LO.out (MNA.out.all LXY.out) G1.out.2 G2.out.2⟩
      replace B := hide (Below.step B.out B.out.size bx)
      clear hb3 bx p0 p1 p2 p3
      go_wp2_with fail
      go_ret
      exact ⟨rfl, Below.step BW.out BW.out.size B.out⟩
end Go.Proofs.YthnlehknbkiomaaGreat
