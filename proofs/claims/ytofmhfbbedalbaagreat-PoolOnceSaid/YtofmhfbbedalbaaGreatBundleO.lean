/-
  Shared texts, one behind the other: ElSort, Vec1, Vec2, Vec3, Vec4, Vec5, Vec6, Vec7, Vec8, Rall, Vec9, Vec10.
-/
import Derived.Test.YtofmhfbbedalbaaGreatEl
import Derived.Shelf.SlSortCmp.WholeK
import Derived.Test.YtofmhfbbedalbaaGreatTv
import Derived.Test.YtofmhfbbedalbaaGreatSortLay
import Derived.BigGuardPart
import Derived.BigQuiet
import Derived.Deep.QuietTactic
import Derived.Deep.RegionHeld3
import Derived.Deep.RegionLaw
import Derived.Test.YtofmhfbbedalbaaGreatRatQ5
import Derived.Test.YtofmhfbbedalbaaGreatBundleG

namespace Go.Proofs.YtofmhfbbedalbaaGreat
open Go.RowKit Go.Sort
set_option linter.unusedVariables false
section
variable {α : Type} [Inhabited α] {enc : α → List Value} {k : Nat} {T : TypeId} {w : World} {B : Nat}
theorem flatK_list (hk : ∀ x, (enc x).length = k) (h0 : 0 < k) (d : Array α) : (flatK enc k d).toList = flat enc d.toList := by
 apply List.ext_getElem?
 intro t
 by_cases ht : t < d.size * k
 ·have hdiv : t / k < d.size := Nat.div_lt_of_lt_mul (by rw [Nat.mul_comm]; exact ht)
  have hmod : t % k < k := Nat.mod_lt _ h0
  have e2 := flat_get hk d.toList (t / k) d[t / k]! (by rw [Array.getElem?_toList, Array.getElem?_eq_getElem hdiv, getElem!_pos d (t / k) hdiv]) (t % k) hmod
  rw [show t / k * k + t % k = t by rw [Nat.mul_comm]; exact Nat.div_add_mod t k] at e2
  rw [e2, Array.getElem?_toList, Array.getElem?_eq_getElem (by simpa using ht)]
  have e3 := get_flatK enc k d t ht
  rw [getElem!_pos (flatK enc k d) t (by simpa using ht)] at e3
  rw [e3, List.getElem?_eq_getElem (by rw [hk]; exact hmod), getElem!_pos (enc d[t / k]!) (t % k) (by rw [hk]; exact hmod)]
 ·rw [List.getElem?_eq_none (by simp; omega), List.getElem?_eq_none (by rw [flat_len hk]; simp; omega)]
theorem Ow.holdsK (hk : ∀ x, (enc x).length = k) (h0 : 0 < k) {g n c : Nat} {d : List α} (h : Ow T enc k w B (.slice (some ⟨g, 0, none⟩) n c) d) : HoldsK enc k w g 0 d.toArray := by
 intro j hj
 have hj2 : j < d.length * k := by simpa using hj
 rcases h.form with ⟨e, _⟩ | ⟨g', cap, cur, e, hB, hlt, hh, h1, h2, h3, h4⟩
 ·cases e
 ·cases e
  have e1 : (flatK enc k d.toArray)[j]? = cur[j]? := by
   rw [← Array.getElem?_toList, flatK_list hk h0, ← h4, List.getElem?_take, if_pos (by simpa using hj2), Array.getElem?_toList]
  rw [Array.getElem?_eq_getElem hj] at e1
  refine ⟨?_, frozen_of_row w g _ cur T hh⟩
  rw [Nat.zero_add, cell_of_row w g j cur T (0, 0) hh, ← e1]
  show some _ = some (id _)
  rw [id, getElem!_pos (flatK enc k d.toArray) j hj]
theorem Ow.sorted (hk : ∀ x, (enc x).length = k) (h0 : 0 < k) {g c : Nat} {d : List α} (h : Ow T enc k w B (.slice (some ⟨g, 0, none⟩) d.length c) d) {d' : Array α} (hs : d'.size = d.length) (n : Nat) (os : Array Obj) :
  Ow T enc k (Go.Proofs.sortWorldK enc k w g 0 n d' os) B (.slice (some ⟨g, 0, none⟩) d'.toList.length c) d'.toList ∧ w.grownBy (Go.Proofs.sortWorldK enc k w g 0 n d' os) (some g) := by
 rcases h.form with ⟨e, _⟩ | ⟨g', cap, cur, e, hB, hlt, hh, h1, h2, h3, h4⟩
 ·cases e
 ·cases e
  have hm := Nat.mul_le_mul_right k h1
  have hheap : (Go.Proofs.sortWorldK enc k w g 0 n d' os).heap[g]? = some (.cells (putCells id 0 (flatK enc k d') cur) T (0, 0)) := by
   show ((w.heap.modify g (onCells (putCells id 0 (flatK enc k d')))) ++ os)[g]? = _
   rw [Array.getElem?_append_left (by simpa using hlt), Array.getElem?_modify, if_pos rfl, hh]
   rfl
  refine ⟨⟨by rw [flat_len hk], .inr ⟨g, c, _, rfl, hB, hheap, by rw [Array.length_toList, hs]; exact h1, h2, by simp [putCells, h3], ?_⟩⟩, ⟨rfl, rfl, rfl, ?_, fun i hi hne => ?_⟩⟩
  ·apply List.ext_getElem?
   intro t
   rw [List.getElem?_take, Array.length_toList, hs]
   by_cases ht : t < d.length * k
   ·rw [if_pos ht, Array.getElem?_toList, ← flatK_list hk h0, Array.getElem?_toList, putCells, Array.getElem?_mapIdx, Array.getElem?_eq_getElem (show t < cur.size by omega), Array.getElem?_eq_getElem (show t < (flatK enc k d').size by rw [size_flatK, hs]; exact ht)]
    simp only [Option.map_some, Nat.zero_le, true_and, Nat.zero_add, Nat.sub_zero, size_flatK, hs]
    rw [if_pos ht, id, getElem!_pos (flatK enc k d') t (by rw [size_flatK, hs]; exact ht)]
   ·rw [if_neg ht, List.getElem?_eq_none (by rw [flat_len hk, Array.length_toList, hs]; omega)]
  ·show w.heap.size ≤ ((w.heap.modify g (onCells (putCells id 0 (flatK enc k d')))) ++ os).size
   rw [Array.size_append, Array.size_modify]
   omega
  ·show ((w.heap.modify g (onCells (putCells id 0 (flatK enc k d')))) ++ os)[i]? = _
   rw [Array.getElem?_append_left (by simpa using hi), Array.getElem?_modify, if_neg (fun e => hne (by rw [e]))]
end
end Go.Proofs.YtofmhfbbedalbaaGreat

namespace Go.Proofs.YtofmhfbbedalbaaGreat
open Go.RowKit Go.Proofs.YtofmhfbbedalbaaGreat.Num
set_option linter.unusedVariables false
set_option linter.unusedSimpArgs false
set_option maxRecDepth 100000
theorem RoRet.rg {w : World} {r : Rat} {L : Nat} {e : Ending} {w' : World} (h : RoRet w r L e w') (h1 : 1 ≤ L) : RgRet w r L e w' := by
 obtain ⟨s, u, t, he, hc, o⟩ := id h
 exact RgRet.of h (hc.ra.sz h1)
set_option maxHeartbeats 2000000 in
theorem whole_o (w : World) (z : Int) (h1 : -9223372036854775808 ≤ z) (h2 : z ≤ 9223372036854775807) :
  Calls Tryz.prog 31 #[.int .i64 z] w (RgRet w (z : Rat) 1) := by
 have HB := hide ((Below.refl w.heap.size w).alloc (Nat.le_refl _) rblk)
 have HZ := hide (Rb.new w)
 go_enter Tryz.func31, Tryz.ntmps31
 go_wp2_with fail
 refine (zof_any (w.alloc rblk) z h1 h2).mono ?_
 rintro e w1 ⟨v, rfl, z1, b1⟩
 have B1 := hide (Below.step HB.out HB.out.size b1)
 have RC := hide (ofint_own (Zi.za z1) (Nat.le_refl 1) (by omega))
 have Z1 := hide (HZ.out.step b1)
 clear z1 b1 HB HZ
 go_wp2_with fail
 refine RC.out.mono ?_
 rintro e w2 ⟨sg, u, t, rfl, c2, o1, o2, dj, b2⟩
 obtain ⟨A1, n1, c1', rfl⟩ := o1.slice
 obtain ⟨D1, m1, d1, rfl⟩ := o2.slice
 obtain ⟨k0, k1, k2, f0, f1, f2, fin⟩ := rr_put_o (w0 := w) c2 (o1.mono B1.out.size) (o2.mono B1.out.size) dj (Z1.out.step b2) (by omega) (Below.step B1.out B1.out.size b2)
 have F := hide fin
 clear fin RC c2 b2 Z1 B1 o1 o2 dj
 go_wp2_with fail
 exact bodyPost_ret (rret rfl _ _ _ #[.bool sg, .slice A1 n1 c1', .slice D1 m1 d1] rfl rfl F.out.1) rfl (F.out.2.rg (Nat.le_refl 1))
def Bq (W : World) (g : Nat) (s : Bool) (u t : Value) : Prop := W.heap[g]? = some (rbox s u t)
theorem Bq.new (w : World) (s : Bool) (u t : Value) : Bq (w.alloc (rbox s u t)) w.heap.size s u t := heap_alloc_new w _
theorem Bq.lt {W : World} {g : Nat} {s : Bool} {u t : Value} (h : Bq W g s u t) : g < W.heap.size := by unfold Bq at h; exact (Array.getElem?_eq_some_iff.1 h).1
theorem Bq.step {W W' : World} {g : Nat} {s : Bool} {u t : Value} (h : Bq W g s u t) (hb : Below W.heap.size W W') : Bq W' g s u t := (hb.block g h.lt).trans h
theorem Bq.all {W : World} {g : Nat} {s : Bool} {u t : Value} (h : Bq W g s u t) : W.cell? ⟨g, 0, none⟩ = some (.bool s) ∧ W.cell? ⟨g, 1, none⟩ = some u ∧ W.cell? ⟨g, 2, none⟩ = some t ∧ W.frozen? ⟨g, 0, none⟩ = false ∧ W.frozen? ⟨g, 1, none⟩ = false ∧ W.frozen? ⟨g, 2, none⟩ = false :=
 ⟨cell_of_row W g 0 _ _ _ h, cell_of_row W g 1 _ _ _ h, cell_of_row W g 2 _ _ _ h, frozen_of_row W g 0 _ _ h, frozen_of_row W g 1 _ _ h, frozen_of_row W g 2 _ _ h⟩
theorem Bq.put {W : World} {g : Nat} {s : Bool} {u t : Value} (h : Bq W g s u t) (s' : Bool) (u' t' : Value) : Bq (((W.setCell ⟨g, 0, none⟩ (.bool s')).setCell ⟨g, 1, none⟩ u').setCell ⟨g, 2, none⟩ t') g s' u' t' :=
 heap_setCell_same _ g 2 _ _ t' (heap_setCell_same _ g 1 _ _ u' (heap_setCell_same W g 0 _ _ (.bool s') h))
theorem only_put3 (W : World) (g : Nat) (a b c : Value) : W.grownBy (((W.setCell ⟨g, 0, none⟩ a).setCell ⟨g, 1, none⟩ b).setCell ⟨g, 2, none⟩ c) (some g) :=
 only_set (p := ⟨g, 2, none⟩) (only_set (p := ⟨g, 1, none⟩) (only_set (p := ⟨g, 0, none⟩) (only_refl W (some g)) rfl a) rfl b) rfl c
theorem below_put3 {B : Nat} {w W : World} {g : Nat} (h : Below B w W) (hg : B ≤ g) (a b c : Value) : Below B w (((W.setCell ⟨g, 0, none⟩ a).setCell ⟨g, 1, none⟩ b).setCell ⟨g, 2, none⟩ c) :=
 ((h.setCell hg a).setCell hg b).setCell hg c
theorem nu_of {W : World} {g : Nat} {cs : Array Value} {T : TypeId} {fz : Nat × Nat} (h : W.heap[g]? = some (.cells cs T fz)) (hn : cs.toList.all (fun v => match v with | .int .u64 _ => false | _ => true) = true) : Nu W g :=
 ⟨cs, T, fz, h, fun j z hj => by
  have hm := List.all_eq_true.1 hn _ (Array.mem_toList_iff.2 (Array.mem_of_getElem? hj))
  simp at hm⟩
theorem Bq.nu {W : World} {g : Nat} {s : Bool} {A D : Option Addr} {n c m d : Nat} (h : Bq W g s (.slice A n c) (.slice D m d)) : Nu W g := nu_of h rfl
theorem Rb.nu {W : World} {g : Nat} (h : Rb W g) : Nu W g := nu_of h rfl
theorem Rb.put {W : World} {g : Nat} (h : Rb W g) (s' : Bool) (u' t' : Value) : Bq (((W.setCell ⟨g, 0, none⟩ (.bool s')).setCell ⟨g, 1, none⟩ u').setCell ⟨g, 2, none⟩ t') g s' u' t' := h.set _ _ _
theorem Rb.other {W : World} {g h : Nat} (z : Rb W h) (hne : h ≠ g) (a b c : Value) : Rb (((W.setCell ⟨g, 0, none⟩ a).setCell ⟨g, 1, none⟩ b).setCell ⟨g, 2, none⟩ c) h :=
 ((Below.heap_setCell _ _ c h hne).trans ((Below.heap_setCell _ _ b h hne).trans (Below.heap_setCell _ _ a h hne))).trans z
theorem rg_put {w0 w : World} {x : Rx} {L g : Nat} (h : Rg w w0.heap.size x L) (hz : Rb w g) (hg0 : w0.heap.size ≤ g) (hb : Below w0.heap.size w0 w) :
  (w.cell? ⟨g, 0, none⟩ = some (.bool false) ∧ w.cell? ⟨g, 1, none⟩ = some (.slice none 0 0) ∧ w.cell? ⟨g, 2, none⟩ = some (.slice none 0 0) ∧
   w.frozen? ⟨g, 0, none⟩ = false ∧ w.frozen? ⟨g, 1, none⟩ = false ∧ w.frozen? ⟨g, 2, none⟩ = false) ∧
   (((w.setCell ⟨g, 0, none⟩ (.bool x.s)).setCell ⟨g, 1, none⟩ (sv x.u)).setCell ⟨g, 2, none⟩ (sv x.t)).heap[g]? = some (.cells #[.bool x.s, sv x.u, sv x.t] 27 (0, 0)) ∧
    RgRet w0 x.r L (.returned (rx x)) (((w.setCell ⟨g, 0, none⟩ (.bool x.s)).setCell ⟨g, 1, none⟩ (sv x.u)).setCell ⟨g, 2, none⟩ (sv x.t)) :=
 ⟨⟨hz.c0, hz.c1, hz.c2, hz.fz 0, hz.fz 1, hz.fz 2⟩, hz.set _ _ _, x, rfl, rfl, h.grown (only_put3 w g _ _ _) hz.nu, below_put3 hb hg0 _ _ _⟩
theorem gt_take {d : List Tx} {k : Nat} {x : Tx} (h : d[k]? = some x) (col : Int) : gt (tms (d.take (k + 1))) col = gt (tms (d.take k)) col + (if x.c = col ∧ 0 ≤ col then x.x.r else 0) := by
 rw [tms_snoc h]
 unfold gt
 by_cases h0 : 0 ≤ col
 ·rw [if_pos h0, if_pos h0, gsum_snoc]
  by_cases h1 : x.c = col
  ·rw [if_pos (And.intro h1 h0), if_pos (show (tm x).1 = col from h1)]; rfl
  ·rw [if_neg (fun e : x.c = col ∧ 0 ≤ col => h1 e.1), if_neg (show ¬ (tm x).1 = col from h1)]
 ·rw [if_neg h0, if_neg h0, if_neg (fun e => h0 e.2), Rat.add_zero]
theorem len_of {α : Type} {d : List α} {k : Nat} (h : k < d.length) : ∃ x, d[k]? = some x := ⟨d[k], List.getElem?_eq_getElem h⟩
theorem isnan_i (x : Int) (w : World) : Calls Tryz.prog 140 #[.int .i64 x] w fun e w' => e = .returned (.bool false) ∧ w' = w := by
 have t : (x != x) = false := by simp
 go_enter Tryz.func140, Tryz.ntmps140
 go_wp2_with fail
 go_ret
 exact ⟨rfl, rfl⟩
theorem compare_i (x y : Int) (w : World) : Calls Tryz.prog 123 #[.int .i64 x, .int .i64 y] w fun e w' => e = .returned (.int .i64 (Go.Lib.compareInt x y)) ∧ w' = w := by
 have t1 : (decide (x < y) = true ∧ Go.Lib.compareInt x y = -1) ∨ (decide (x < y) = false ∧ ((decide (y < x) = true ∧ Go.Lib.compareInt x y = 1) ∨ (decide (y < x) = false ∧ Go.Lib.compareInt x y = 0))) := by
  unfold Go.Lib.compareInt
  by_cases h1 : x < y
  ·exact .inl ⟨decide_eq_true h1, if_pos h1⟩
  ·by_cases h2 : y < x
   ·exact .inr ⟨decide_eq_false h1, .inl ⟨decide_eq_true h2, by rw [if_neg h1, if_pos h2]⟩⟩
   ·exact .inr ⟨decide_eq_false h1, .inr ⟨decide_eq_false h2, by rw [if_neg h1, if_neg h2]⟩⟩
 generalize Go.Lib.compareInt x y = r at *
 go_enter Tryz.func123, Tryz.ntmps123
 go_wp2_with fail
 refine (isnan_i x w).mono ?_
 rintro e _ ⟨rfl, rfl⟩
 go_wp2_with fail
 refine (isnan_i y _).mono ?_
 rintro e _ ⟨rfl, rfl⟩
 rcases t1 with ⟨t1, rfl⟩ | ⟨t1, ⟨t2, rfl⟩ | ⟨t2, rfl⟩⟩
 ·go_wp2_with fail
  go_ret
  exact ⟨rfl, rfl⟩
 ·go_wp2_with fail
  go_ret
  exact ⟨rfl, rfl⟩
 ·go_wp2_with fail
  go_ret
  exact ⟨rfl, rfl⟩
theorem low_c (x : Tx) (w : World) : Calls Tryz.prog 120 #[.agg (et x).toArray] w fun e w' => e = .returned (.bool (decide (x.c < 0))) ∧ Below w.heap.size w w' := by
 show Calls Tryz.prog 120 #[.agg #[.int .i64 x.c, .bool x.x.s, sv x.x.u, sv x.x.t]] w _
 have b8 := hide ((Below.refl w.heap.size w).alloc (Nat.le_refl _) (.cells #[.int .i64 x.c, .bool x.x.s, sv x.x.u, sv x.x.t] 59))
 obtain ⟨r, hr⟩ : ∃ r, decide (x.c < 0) = r := ⟨_, rfl⟩
 rw [hr]
 go_enter Tryz.func120, Tryz.ntmps120
 go_wp2_with fail
 go_ret
 exact ⟨rfl, b8.out⟩
theorem ord_c (x y : Tx) (w : World) : Calls Tryz.prog 122 #[.agg (et x).toArray, .agg (et y).toArray] w fun e w' => e = .returned (.int .i64 (Go.Lib.compareInt x.c y.c)) ∧ ∃ q os', w' = Go.Sort.grow (w.drewN q) os' := by
 show Calls Tryz.prog 122 #[.agg #[.int .i64 x.c, .bool x.x.s, sv x.x.u, sv x.x.t], .agg #[.int .i64 y.c, .bool y.x.s, sv y.x.u, sv y.x.t]] w _
 have hcon := fun W => compare_i x.c y.c W
 generalize Go.Lib.compareInt x.c y.c = r at hcon ⊢
 go_enter Tryz.func122, Tryz.ntmps122
 go_wp2_with fail
 refine (hcon _).mono ?_
 rintro e _ ⟨rfl, rfl⟩
 go_wp2_with fail
 go_ret
 exact ⟨rfl, 0, _, by rw [Go.Sort.alloc_eq_grow, Go.Sort.alloc_eq_grow, Go.Sort.grow_grow]; rfl⟩
theorem nil_c {x : Tx} {L : Nat} {w : World} (h : Ra w (rx x.x) x.x.r L) (hL : L ≤ 1000000000000) : Calls Tryz.prog 96 #[.agg (et x).toArray] w fun e w' => e = .returned (.bool (decide (x.x.r = 0))) ∧ Below w.heap.size w w' := by
 show Calls Tryz.prog 96 #[.agg #[.int .i64 x.c, .bool x.x.s, sv x.x.u, sv x.x.t]] w _
 have b8 := (Below.refl w.heap.size w).alloc (Nat.le_refl _) (.cells #[.int .i64 x.c, .bool x.x.s, sv x.x.u, sv x.x.t] 59)
 have H := hide (h.step b8)
 have B := hide b8
 have t1 : (cmpR x.x.r 0 == 0) = decide (x.x.r = 0) := by
  unfold cmpR
  by_cases h0 : x.x.r = 0
  ·rw [h0]; rfl
  ·have : decide (x.x.r = 0) = false := decide_eq_false h0
   rw [this]
   by_cases h1 : x.x.r < 0
   ·rw [if_pos h1]; rfl
   ·by_cases h2 : 0 < x.x.r
    ·rw [if_neg h1, if_pos h2]; rfl
    ·exact absurd (Rat.le_antisymm (Rat.not_lt.1 h2) (Rat.not_lt.1 h1)) h0
 obtain ⟨r, hr⟩ : ∃ r, decide (x.x.r = 0) = r := ⟨_, rfl⟩
 rw [hr] at t1 ⊢
 clear h b8
 go_enter Tryz.func96, Tryz.ntmps96
 go_wp2_with fail
 refine (sign_r H.out (by omega)).mono ?_
 rintro e w1 ⟨rfl, bx⟩
 replace B := hide (Below.step B.out B.out.size bx)
 generalize cmpR x.x.r 0 = z at *
 clear bx
 go_wp2_with fail
 go_ret
 exact ⟨rfl, B.out⟩
set_option maxHeartbeats 4000000 in
theorem index_f {g : FuncId} {w : World} {v : Value} {d : List Tx} (p : Tx → Bool) (eg : ∀ args w, (callFunc g args).run Tryz.prog w = .ok (.enter g args) w) (hv : Lr et 4 w v d)
  (hg : ∀ W, Below w.heap.size w W → ∀ x ∈ d, Calls Tryz.prog g #[.agg (et x).toArray] W fun e W' => e = .returned (.bool (p x)) ∧ Below W.heap.size W W') :
  Calls Tryz.prog 126 #[v, .func (.func g) #[] #[]] w fun e w' => Below w.heap.size w w' ∧
   ((∃ k, k < d.length ∧ e = .returned (.int .i64 (k : Int)) ∧ (∀ j x, j < k → d[j]? = some x → p x = false) ∧ ∀ x, d[k]? = some x → p x = true) ∨ (e = .returned (.int .i64 (-1)) ∧ ∀ x ∈ d, p x = false)) := by
 obtain ⟨A, c, rfl, hc1, hc2, hc3⟩ := id hv
 have HV := hide hv
 have HG := hide hg
 obtain ⟨n, hlen⟩ : ∃ n, n = d.length := ⟨_, rfl⟩
 rw [← hlen] at HV hc1 ⊢
 have HN := hide hlen
 unfold maxLen at hc2
 clear hv hg hc3 hlen
 go_enter Tryz.func126, Tryz.ntmps126
 go_wp2_with fail
 go_loopw [8] (fun iv wr => ∃ k : Nat, k ≤ n ∧ iv = .int .i64 (k : Int) ∧ Hid (Below w.heap.size w wr) ∧ Hid (∀ j x, j < k → d[j]? = some x → p x = false)) (fun iv _ => n - (intOf iv).toNat)
 case atStart => exact ⟨0, Nat.zero_le _, rfl, hide (Below.refl _ _), hide (fun j x h => by omega)⟩
 case round =>
  obtain ⟨k, hk, rfl, B, P⟩ := hrel
  by_cases hlt : k < n
  ·obtain ⟨t, ht⟩ := len_of (d := d) (k := k) (by rw [← HN.out]; exact hlt)
   have HC := hide (HG.out wr B.out t (List.mem_of_getElem? ht))
   obtain ⟨b, off, rfl, hb, hc⟩ := (HV.out.step B.out).get ht
   have c0 := hc 0 _ rfl
   have c1 := hc 1 _ rfl
   have c2 := hc 2 _ rfl
   have c3 := hc 3 _ rfl
   rw [Nat.add_zero] at c0
   have l0 : (0 : Int) ≤ (k : Int) := by omega
   have l1 : (k : Int) < (n : Int) := by omega
   have HT := hide ht
   have hcall : Calls Tryz.prog g #[.agg #[.int .i64 t.c, .bool t.x.s, sv t.x.u, sv t.x.t]] wr fun e W' => e = .returned (.bool (p t)) ∧ Below wr.heap.size wr W' := HC.out
   have HC2 := hide hcall
   clear hc hb ht hcall HC
   cases hp : p t with
   | false =>
    rw [hp] at HC2
    go_wp2_with (go_at_fn g; refine HC2.out.mono ?_; rintro e w3 ⟨rfl, bx⟩)
    exact ⟨⟨k + 1, by omega, by go_num, hide (Below.step B.out B.out.size bx), hide (fun j x hj hx => by
     by_cases h : j = k
     ·subst h
      rw [HT.out] at hx
      injection hx with hx
      subst hx
      exact hp
     ·exact P.out j x (by omega) hx)⟩, by simp [intOf]; omega⟩
   | true =>
    rw [hp] at HC2
    go_wp2_with (go_at_fn g; refine HC2.out.mono ?_; rintro e w3 ⟨rfl, bx⟩)
    go_ret
    exact ⟨Below.step B.out B.out.size bx, .inl ⟨k, hlt, rfl, P.out, fun x hx => by
     rw [HT.out] at hx
     injection hx with hx
     subst hx
     exact hp⟩⟩
  ·obtain rfl : k = n := by omega
   go_wp2_with fail
   go_ret
   exact ⟨B.out, .inr ⟨rfl, fun x hx => by
    obtain ⟨j, hj, e⟩ := List.getElem_of_mem hx
    exact P.out j x (by rw [HN.out]; exact hj) (by rw [List.getElem?_eq_getElem hj, e])⟩⟩
theorem info_tm : (Tryz.prog.info? 59).map (fun i => (i.zero, i.size, i.bytes)) = some (some (.agg #[.int .i64 0, .bool false, .slice none 0 0, .slice none 0 0]), 4, 64) := by kernel_rfl
theorem info_rt : (Tryz.prog.info? 27).map (fun i => (i.zero, i.size, i.bytes)) = some (some (.agg #[.bool false, .slice none 0 0, .slice none 0 0]), 3, 56) := by kernel_rfl
theorem eql_some (ad : Addr) (n c : Nat) (w : World) : (binOp BinOp.eql 22 (.slice (some ad) n c) (.slice none 0 0)).run Tryz.prog w = .ok (.bool false) w := by rfl
theorem eql_none (n c : Nat) (w : World) : (binOp BinOp.eql 22 (.slice none n c) (.slice none 0 0)).run Tryz.prog w = .ok (.bool true) w := by rfl
set_option maxHeartbeats 2000000 in
theorem clone_t {w : World} {v : Value} {d : List Tx} (hv : Lr et 4 w v d) (hn : d.length ≤ 100000000) :
  Calls Tryz.prog 119 #[v] w fun e w' => ∃ v', e = .returned v' ∧ Ow 59 et 4 w' w.heap.size v' d ∧ Below w.heap.size w w' := by
 obtain ⟨A, c, rfl, hc1, hc2, hc3⟩ := id hv
 cases A with
 | none =>
  have h0 : d = [] := by
   rcases Nat.eq_zero_or_pos d.length with h | h
   ·exact List.length_eq_zero_iff.1 h
   ·obtain ⟨b, off, e, _⟩ := hc3 h
    cases e
  subst h0
  clear hv hc3
  have eq := eql_none 0 c w
  go_enter Tryz.func119, Tryz.ntmps119
  go_wp2_with fail
  go_ret
  exact ⟨_, rfl, Ow.nil _ _ _ _ _, Below.refl _ _⟩
 | some ad =>
  obtain ⟨i0, hi, hz0, hz1, hz2⟩ := info_parts info_tm
  have eq := eql_some ad d.length c w
  go_enter Tryz.func119, Tryz.ntmps119
  have X := hide ((hv.step ((Below.refl _ _).alloc (Nat.le_refl _) (.cells #[] 59))))
  have O := hide (Ow.lit (B := w.heap.size) et_len w 59 ([] : List Tx) #[] rfl (Nat.le_refl _) (by simp [maxLen]))
  have B := hide ((Below.refl w.heap.size w).alloc (Nat.le_refl _) (.cells #[] 59))
  clear hv hc3
  go_wp2_with (at_builtin; go_must (refine wpList_joinE rfl (.tmp 5) (.tmp 6) 22 rfl Tryz.underlying22 hi hz0 hz1 hz2 rfl (by omega) et_len et_one _ w.heap.size _ [] ad c d X.out O.out rfl rfl (by simp; omega) (by decide) B.out.size ?_); intro v' w' ho hg; have fin := And.intro ho (below_own B.out O.out hg.1 B.out.size); clear ho hg)
  go_ret
  exact ⟨_, rfl, fin.1, fin.2⟩
theorem flat_set4 : ∀ (d : List Tx) (i : Nat) (x : Tx), i < d.length → ((((flat et d).set (i * 4) (.int .i64 x.c)).set (i * 4 + 1) (.bool x.x.s)).set (i * 4 + 2) (sv x.x.u)).set (i * 4 + 3) (sv x.x.t) = flat et (d.set i x)
 | [], i, x, h => by simp at h
 | y :: d, 0, x, _ => by simp [flat, et]
 | y :: d, i + 1, x, h => by
  have ih := flat_set4 d i x (by simpa using h)
  rw [List.set_cons_succ, flat, flat, ← ih]
  simp only [et, List.cons_append, List.nil_append, show (i + 1) * 4 = i * 4 + 1 + 1 + 1 + 1 by omega, show i * 4 + 1 + 1 + 1 + 1 + 1 = i * 4 + 1 + 1 + 1 + 1 + 1 from rfl, List.set_cons_succ, show i * 4 + 1 + 1 + 1 + 1 + 2 = i * 4 + 2 + 1 + 1 + 1 + 1 by omega, show i * 4 + 1 + 1 + 1 + 1 + 3 = i * 4 + 3 + 1 + 1 + 1 + 1 by omega]
theorem flat_set3 : ∀ (d : List Tx) (i : Nat) (y : Tx) (x : Rx), d[i]? = some y → (((flat et d).set (i * 4 + 1) (.bool x.s)).set (i * 4 + 2) (sv x.u)).set (i * 4 + 3) (sv x.t) = flat et (d.set i ⟨y.c, x⟩)
 | [], i, y, x, h => by simp at h
 | z :: d, 0, y, x, h => by simp at h; subst h; simp [flat, et]
 | z :: d, i + 1, y, x, h => by
  have ih := flat_set3 d i y x (by simpa using h)
  rw [List.set_cons_succ, flat, flat, ← ih]
  simp only [et, List.cons_append, List.nil_append, show (i + 1) * 4 + 1 = i * 4 + 1 + 1 + 1 + 1 + 1 by omega, List.set_cons_succ, show (i + 1) * 4 + 2 = i * 4 + 2 + 1 + 1 + 1 + 1 by omega, show (i + 1) * 4 + 3 = i * 4 + 3 + 1 + 1 + 1 + 1 by omega]
theorem own_len {W : World} {B g n c : Nat} {d : List Tx} (h : Ow 59 et 4 W B (.slice (some ⟨g, 0, none⟩) n c) d) : n = d.length := by
 rcases h.form with ⟨e, _⟩ | ⟨g', cap, cur, e, _⟩
 ·cases e
 ·injection e
theorem Ow.put4 {W : World} {B g n c i : Nat} {d : List Tx} (h : Ow 59 et 4 W B (.slice (some ⟨g, 0, none⟩) n c) d) (hi : i < d.length) (x : Tx) :
  Ow 59 et 4 ((((W.setCell ⟨g, i * 4, none⟩ (.int .i64 x.c)).setCell ⟨g, i * 4 + 1, none⟩ (.bool x.x.s)).setCell ⟨g, i * 4 + 2, none⟩ (sv x.x.u)).setCell ⟨g, i * 4 + 3, none⟩ (sv x.x.t)) B (.slice (some ⟨g, 0, none⟩) n c) (d.set i x) := by
 have hn := own_len h
 subst hn
 have h1 := World.ownsRow.stored (World.ownsRow.stored (World.ownsRow.stored (World.ownsRow.stored (show W.ownsRow B _ 4 _ d.length _ from h) (i * 4) (.int .i64 x.c)).1 (i * 4 + 1) (.bool x.x.s)).1 (i * 4 + 2) (sv x.x.u)).1 (i * 4 + 3) (sv x.x.t)
 have h2 := h1.1
 rw [flat_set4 d i x hi] at h2
 unfold Ow
 rw [List.length_set]
 exact h2
theorem Ow.put3 {W : World} {B g n c i : Nat} {d : List Tx} {y : Tx} (h : Ow 59 et 4 W B (.slice (some ⟨g, 0, none⟩) n c) d) (hi : d[i]? = some y) (x : Rx) :
  Ow 59 et 4 (((W.setCell ⟨g, i * 4 + 1, none⟩ (.bool x.s)).setCell ⟨g, i * 4 + 2, none⟩ (sv x.u)).setCell ⟨g, i * 4 + 3, none⟩ (sv x.t)) B (.slice (some ⟨g, 0, none⟩) n c) (d.set i ⟨y.c, x⟩) := by
 have hn := own_len h
 subst hn
 have h1 := World.ownsRow.stored (World.ownsRow.stored (World.ownsRow.stored (show W.ownsRow B _ 4 _ d.length _ from h) (i * 4 + 1) (.bool x.s)).1 (i * 4 + 2) (sv x.u)).1 (i * 4 + 3) (sv x.t)
 have h2 := h1.1
 rw [flat_set3 d i y x hi] at h2
 unfold Ow
 rw [List.length_set]
 exact h2
theorem Ow.cells {W : World} {B g n c i : Nat} {d : List Tx} {x : Tx} (h : Ow 59 et 4 W B (.slice (some ⟨g, 0, none⟩) n c) d) (hi : d[i]? = some x) :
  W.cell? ⟨g, i * 4, none⟩ = some (.int .i64 x.c) ∧ W.cell? ⟨g, i * 4 + 1, none⟩ = some (.bool x.x.s) ∧ W.cell? ⟨g, i * 4 + 2, none⟩ = some (sv x.x.u) ∧ W.cell? ⟨g, i * 4 + 3, none⟩ = some (sv x.x.t) := by
 obtain ⟨b, off, e, hb, hc⟩ := (h.rl et_len).get hi
 injection e with e
 injection e with e1 e2
 subst e1 e2
 have c0 := hc 0 _ rfl
 have c1 := hc 1 _ rfl
 have c2 := hc 2 _ rfl
 have c3 := hc 3 _ rfl
 rw [Nat.zero_add] at c0 c1 c2 c3
 exact ⟨c0, c1, c2, c3⟩
theorem only_put4 {w W : World} {g : Nat} (h : w.grownBy W (some g)) (i j k l : Nat) (a b c e : Value) : w.grownBy ((((W.setCell ⟨g, i, none⟩ a).setCell ⟨g, j, none⟩ b).setCell ⟨g, k, none⟩ c).setCell ⟨g, l, none⟩ e) (some g) :=
 only_set (p := ⟨g, l, none⟩) (only_set (p := ⟨g, k, none⟩) (only_set (p := ⟨g, j, none⟩) (only_set (p := ⟨g, i, none⟩) h rfl a) rfl b) rfl c) rfl e
theorem setCells_block (b : Nat) : ∀ (vs : List Value) (o : Nat) (w : World) (cs : Array Value) (T : TypeId), w.heap[b]? = some (.cells cs T (0, 0)) →
  ∃ cs', (w.setCells b o vs).heap[b]? = some (.cells cs' T (0, 0)) ∧ cs'.size = cs.size ∧ (∀ j, j < o → cs'[j]? = cs[j]?) ∧ w.grownBy (w.setCells b o vs) (some b)
 | [], o, w, cs, T, h => ⟨cs, h, rfl, fun _ _ => rfl, only_refl w _⟩
 | v :: r, o, w, cs, T, h => by
  obtain ⟨cs', h1, h2, h3, h4⟩ := setCells_block b r (o + 1) (w.setCell ⟨b, o, none⟩ v) _ T (heap_setCell_same w b o cs T v h)
  refine ⟨cs', h1, by rw [h2]; simp, fun j hj => ?_, only_trans (only_set (p := ⟨b, o, none⟩) (only_refl w (some b)) rfl v) h4⟩
  rw [h3 j (by omega), Array.getElem?_setIfInBounds, if_neg (by omega)]
theorem run_clearT {w : World} {B g n c i : Nat} {d : List Tx} (h : Ow 59 et 4 w B (.slice (some ⟨g, 0, none⟩) n c) d) (hi : i < n) :
  ∃ w9, (∀ ty, (Builtin.clear_ #[22] ty #[.slice (some ⟨g, i * 4, none⟩) (n - i) (c - i)]).run Tryz.prog w = .ok (.tuple #[]) w9) ∧ w.grownBy w9 (some g) ∧ Ow 59 et 4 w9 B (.slice (some ⟨g, 0, none⟩) i c) (d.take i) := by
 have hn := own_len h
 subst hn
 rcases h.form with ⟨e, _⟩ | ⟨g', cap, cur, e, hB, hlt, hh, h1, h2, h3, h4⟩
 ·cases e
 ·cases e
  have hcap : d.length * 4 ≤ cur.size := by rw [h3]; omega
  obtain ⟨cs', k1, k2, k3, k4⟩ := setCells_block g ((Builtin.zeroCells (Value.agg #[.int .i64 0, .bool false, .slice none 0 0, .slice none 0 0]).cells (d.length - i)).toList) (i * 4) w cur _ hh
  have hlen : ((Builtin.zeroCells (Value.agg #[.int .i64 0, .bool false, .slice none 0 0, .slice none 0 0]).cells (d.length - i)).toList).length = (d.length - i) * 4 := by simp [Builtin.zeroCells, Value.cells]
  refine ⟨_, fun ty => ?_, k4, ?_⟩
  ·have hz : (zeroValue 59).run Tryz.prog w = .ok (.agg #[.int .i64 0, .bool false, .slice none 0 0, .slice none 0 0]) w := by rfl
   have hst := run_storeCells_cells (P := Tryz.prog) g (i * 4) ((Builtin.zeroCells (Value.agg #[.int .i64 0, .bool false, .slice none 0 0, .slice none 0 0]).cells (d.length - i)).toList) 0 w
    (fun j hj => by
     rw [hlen] at hj
     rw [cell_of_row w g _ cur _ (0, 0) hh, Nat.add_zero, Array.getElem?_eq_getElem (by omega)]
     rfl)
    (fun j hj => frozen_of_row w g _ cur _ hh)
    (fun v hv => by
     simp [Builtin.zeroCells, Value.cells] at hv
     obtain ⟨a, ha, rfl⟩ := hv
     have : a % 4 < 4 := Nat.mod_lt _ (by omega)
     generalize a % 4 = m at this
     match m, this with
     | 0, _ => rfl
     | 1, _ => rfl
     | 2, _ => rfl
     | 3, _ => rfl)
   rw [Nat.add_zero] at hst
   obtain ⟨m, hm⟩ : ∃ m, d.length - i = m + 1 := ⟨d.length - i - 1, by omega⟩
   rw [hm] at hst ⊢
   simp [Builtin.clear_, run_underlying Tryz.underlying22, hz, hst]
  ·refine ⟨by rw [flat_len et_len], .inr ⟨g, c, cs', by rw [List.length_take, Nat.min_eq_left (by omega)], hB, k1, by rw [List.length_take, Nat.min_eq_left (by omega)]; omega, h2, by rw [k2, h3], ?_⟩⟩
   apply List.ext_getElem?
   intro t
   rw [List.getElem?_take, List.length_take, Nat.min_eq_left (by omega)]
   by_cases ht : t < i * 4
   ·rw [if_pos ht, Array.getElem?_toList, k3 t ht]
    have e5 : flat et d = flat et (d.take i) ++ flat et (d.drop i) := by rw [← flat_append, List.take_append_drop]
    have e6 : (flat et d)[t]? = cur[t]? := by rw [← h4, List.getElem?_take, if_pos (by omega), Array.getElem?_toList]
    rw [← e6, e5, List.getElem?_append_left (by rw [flat_len et_len, List.length_take, Nat.min_eq_left (by omega)]; exact ht)]
   ·rw [if_neg ht, List.getElem?_eq_none (by rw [flat_len et_len, List.length_take, Nat.min_eq_left (by omega)]; omega)]
def Kp (p : Tx → Bool) (d : List Tx) (i j : Nat) (cur : List Tx) : Prop := cur.length = d.length ∧ cur.take i = (d.take j).filter (fun x => !p x) ∧ ∀ m, j ≤ m → cur[m]? = d[m]?
theorem filter_snoc (p : Tx → Bool) {d : List Tx} {j : Nat} {x : Tx} (hx : d[j]? = some x) : (d.take (j + 1)).filter (fun x => !p x) = (d.take j).filter (fun x => !p x) ++ if p x then [] else [x] := by
 have hk := (List.getElem?_eq_some_iff.1 hx).1
 have e : d[j] = x := (List.getElem?_eq_some_iff.1 hx).2
 rw [List.take_succ_eq_append_getElem hk, List.filter_append, e]
 cases h : p x <;> simp [h]
theorem Kp.start {p : Tx → Bool} {d : List Tx} {k : Nat} {x : Tx} (hx : d[k]? = some x) (h0 : ∀ j y, j < k → d[j]? = some y → p y = false) (h1 : p x = true) : Kp p d k (k + 1) d := by
 refine ⟨rfl, ?_, fun _ _ => rfl⟩
 rw [filter_snoc p hx, h1]
 simp only [if_true, List.append_nil]
 symm
 rw [List.filter_eq_self]
 intro y hy
 obtain ⟨j, hj, e⟩ := List.getElem_of_mem hy
 have hj2 : j < k := by rw [List.length_take] at hj; omega
 have := h0 j y hj2 (by rw [List.getElem_take] at e; rw [← e]; exact List.getElem?_eq_getElem _)
 simp [this]
theorem Kp.keep {p : Tx → Bool} {d : List Tx} {i j : Nat} {cur : List Tx} {x : Tx} (h : Kp p d i j cur) (hij : i < j) (hx : d[j]? = some x) (hp : p x = false) : Kp p d (i + 1) (j + 1) (cur.set i x) := by
 have hj := (List.getElem?_eq_some_iff.1 hx).1
 refine ⟨by rw [List.length_set]; exact h.1, ?_, fun m hm => ?_⟩
 ·rw [filter_snoc p hx, hp, ← h.2.1]
  have hl : i < (cur.set i x).length := by rw [List.length_set, h.1]; omega
  rw [List.take_succ_eq_append_getElem hl, List.take_set_of_le (Nat.le_refl i)]
  simp
 ·rw [List.getElem?_set_ne (by omega)]
  exact h.2.2 m (by omega)
theorem Kp.skip {p : Tx → Bool} {d : List Tx} {i j : Nat} {cur : List Tx} {x : Tx} (h : Kp p d i j cur) (hx : d[j]? = some x) (hp : p x = true) : Kp p d i (j + 1) cur := by
 refine ⟨h.1, ?_, fun m hm => h.2.2 m (by omega)⟩
 rw [filter_snoc p hx, hp, h.2.1]
 simp
set_option maxHeartbeats 4000000 in
theorem delete_f {g0 : FuncId} {w : World} {B : Nat} {v : Value} {d : List Tx} (p : Tx → Bool) (eg : ∀ args w, (callFunc g0 args).run Tryz.prog w = .ok (.enter g0 args) w) (hv : Ow 59 et 4 w B v d) (hn : d.length ≤ 100000000)
  (hg : ∀ W, w.grownBy W v.ownBlock → ∀ x ∈ d, Calls Tryz.prog g0 #[.agg (et x).toArray] W fun e W' => e = .returned (.bool (p x)) ∧ Below W.heap.size W W') :
  Calls Tryz.prog 95 #[v, .func (.func g0) #[] #[]] w fun e w' => ∃ v', e = .returned v' ∧ Ow 59 et 4 w' B v' (d.filter fun x => !p x) ∧ w.grownBy w' v.ownBlock := by
 have IX := hide (index_f p eg (hv.rl et_len) (fun W hb => hg W (only_below (only_refl w _) hb (Nat.le_refl _))))
 have HG := hide hg
 have HV := hide hv
 have hvs : ∃ A n c, v = .slice A n c := by
  rcases hv.form with ⟨rfl, _⟩ | ⟨g, cap, cur, rfl, _⟩
  ·exact ⟨_, _, _, rfl⟩
  ·exact ⟨_, _, _, rfl⟩
 obtain ⟨A, n, c, rfl⟩ := hvs
 clear hg hv
 go_enter Tryz.func95, Tryz.ntmps95
 go_wp2_with fail
 refine IX.out.mono ?_
 rintro e w1 ⟨b1, ⟨k, hk, rfl, hlow, hhit⟩ | ⟨rfl, hnone⟩⟩
 ·rcases HV.out.form with ⟨_, rfl⟩ | ⟨g, cap, cur0, e, _, _, _, hcap, _⟩
  ·simp at hk
  ·injection e with e1 e2 e3
   subst e1 e2 e3
   obtain ⟨x, hx⟩ := len_of hk
   have K0 := hide (Kp.start hx hlow (hhit x hx))
   have O1 := hide (HV.out.step b1)
   have G1 := hide (only_below (only_refl w (some g)) b1 (Nat.le_refl _))
   obtain ⟨n, hlen⟩ : ∃ n, n = d.length := ⟨_, rfl⟩
   rw [← hlen] at O1 hk hn hcap ⊢
   rw [← hlen] at HG HV
   have HN := hide hlen
   have t1 : (((k : Nat) : Int) == -1) = false := beq_eq_false_iff_ne.2 (by omega)
   clear hlow hhit hx hlen b1 IX
   go_wp2_with fail
   go_loopw [5, 6] (fun iv jv wr => ∃ (i j : Nat) (cur : List Tx), i < j ∧ j ≤ n ∧ iv = .int .i64 (i : Int) ∧ jv = .int .i64 (j : Int) ∧ Hid (Kp p d i j cur) ∧ Hid (Ow 59 et 4 wr B (.slice (some ⟨g, 0, none⟩) n c) cur) ∧ Hid (w.grownBy wr (some g))) (fun _ jv _ => n - (intOf jv).toNat)
   case atStart => exact ⟨k, k + 1, d, by omega, by omega, rfl, by go_num, K0, O1, G1⟩
   case round =>
    obtain ⟨i, j, cur, hij, hj, rfl, rfl, K, O, G⟩ := hrel
    have hcl : cur.length = n := by rw [HN.out]; exact K.out.1
    by_cases hlt : j < n
    ·obtain ⟨x, hx⟩ := len_of (d := d) (k := j) (by rw [← HN.out]; exact hlt)
     have hx2 : cur[j]? = some x := (K.out.2.2 j (Nat.le_refl _)).trans hx
     obtain ⟨c0, c1, c2, c3⟩ := O.out.cells hx2
     have b8 := (Below.refl wr.heap.size wr).alloc (Nat.le_refl _) (.cells #[.int .i64 x.c, .bool x.x.s, sv x.x.u, sv x.x.t] 59)
     have O8 := hide (O.out.step b8)
     have G8 := hide (only_below G.out b8 (by have := G.out.size; exact this))
     have hcall : Calls Tryz.prog g0 #[.agg #[.int .i64 x.c, .bool x.x.s, sv x.x.u, sv x.x.t]] (wr.alloc (.cells #[.int .i64 x.c, .bool x.x.s, sv x.x.u, sv x.x.t] 59)) fun e W' => e = .returned (.bool (p x)) ∧ Below (wr.alloc (.cells #[.int .i64 x.c, .bool x.x.s, sv x.x.u, sv x.x.t] 59)).heap.size (wr.alloc (.cells #[.int .i64 x.c, .bool x.x.s, sv x.x.u, sv x.x.t] 59)) W' := HG.out _ G8.out x (List.mem_of_getElem? hx)
     have HC := hide hcall
     have HX := hide hx
     have E0 := hide (heap_alloc_new wr (.cells #[.int .i64 x.c, .bool x.x.s, sv x.x.u, sv x.x.t] 59))
     have l0 : (0 : Int) ≤ (j : Int) := by omega
     have l1 : (j : Int) < (n : Int) := by omega
     clear hcall hx hx2 b8 O G
     cases hp : p x with
     | false =>
      have KN := hide (K.out.keep hij HX.out hp)
      rw [hp] at HC
      obtain ⟨y, hy⟩ := len_of (d := cur) (k := i) (by omega)
      have HY := hide hy
      clear hy
      go_wp2_with (go_at_fn g0; go_must (refine HC.out.mono ?_; rintro e w3 ⟨rfl, bx⟩; have bxx := hide bx; clear c0 c1 c2 c3 bx; obtain ⟨c0, c1, c2, c3⟩ := (O8.out.step bxx.out).cells HY.out; have f0 := (O8.out.step bxx.out).frozen rfl (i * 4); have f1 := (O8.out.step bxx.out).frozen rfl (i * 4 + 1); have f2 := (O8.out.step bxx.out).frozen rfl (i * 4 + 2); have f3 := (O8.out.step bxx.out).frozen rfl (i * 4 + 3); have E1 := (bxx.out.block wr.heap.size (by simp)).trans E0.out; have e0 := cell_of_row w3 wr.heap.size 0 _ _ _ E1; have e1 := cell_of_row w3 wr.heap.size 1 _ _ _ E1; have e2 := cell_of_row w3 wr.heap.size 2 _ _ _ E1; have e3 := cell_of_row w3 wr.heap.size 3 _ _ _ E1; have l2 : (0 : Int) ≤ (i : Int) := (by omega); have l3 : (i : Int) < (n : Int) := (by omega); have ON := hide ((O8.out.step bxx.out).put4 (i := i) (by omega) x); have GN := hide (only_put4 (only_below G8.out bxx.out (by have := G8.out.size; exact this)) (i * 4) (i * 4 + 1) (i * 4 + 2) (i * 4 + 3) (.int .i64 x.c) (.bool x.x.s) (sv x.x.u) (sv x.x.t)); clear E1 bxx))
      exact ⟨⟨i + 1, j + 1, _, by omega, by omega, by go_num, by go_num, KN, ON, GN⟩, by simp [intOf]; omega⟩
     | true =>
      have KN := hide (K.out.skip HX.out hp)
      rw [hp] at HC
      go_wp2_with (go_at_fn g0; refine HC.out.mono ?_; rintro e w3 ⟨rfl, bx⟩)
      exact ⟨⟨i, j + 1, cur, by omega, by omega, rfl, by go_num, KN, hide (O8.out.step bx), hide (only_below G8.out bx (by have := G8.out.size; exact this))⟩, by simp [intOf]; omega⟩
    ·obtain rfl : j = n := by omega
     obtain ⟨w9, hcl9, g9, o9⟩ := run_clearT O.out hij
     have GF := hide (only_trans G.out g9)
     have ef : d.filter (fun x => !p x) = cur.take i := by rw [K.out.2.1, List.take_of_length_le (by rw [← HN.out]; exact Nat.le_refl _)]
     have OF := hide o9
     have l0 : (0 : Int) ≤ (i : Int) := by omega
     have l1 : (i : Int) ≤ (j : Int) := by omega
     have l2 : (i : Int) ≤ (c : Int) := by omega
     clear g9 o9 O G
     go_wp2_with fail
     go_ret
     exact ⟨_, rfl, by rw [ef]; exact OF.out, GF.out⟩
 ·have t1 : ((-1 : Int) == -1) = true := rfl
  have ef : d.filter (fun x => !p x) = d := List.filter_eq_self.2 (fun x hx => by simp [hnone x hx])
  have F := hide (HV.out.step b1)
  have G := hide (only_below (only_refl w (Value.slice A n c).ownBlock) b1 (Nat.le_refl _))
  clear IX HG hnone b1
  go_wp2_with fail
  go_ret
  exact ⟨_, rfl, by rw [ef]; exact F.out, G.out⟩
theorem lt_c (x y : Tx) : Go.Proofs.ltOf (fun x y : Tx => Go.Lib.compareInt x.c y.c) x y = decide (x.c < y.c) := by
 unfold Go.Proofs.ltOf Go.Lib.compareInt
 by_cases h1 : x.c < y.c
 ·simp [h1]
 ·by_cases h2 : y.c < x.c <;> simp [h1, h2]
theorem swo_c : Go.Sort.SWO (Go.Proofs.ltOf fun x y : Tx => Go.Lib.compareInt x.c y.c) where
 irrefl x := by rw [lt_c]; simp
 trans x y z h1 h2 := by rw [lt_c] at *; simp at *; omega
 ntrans x y z h1 h2 := by rw [lt_c] at *; simp at *; omega
theorem enter_low : ∀ args w, (callFunc 120 args).run Tryz.prog w = .ok (.enter 120 args) w := Go.Proofs.enters_of Tryz.func120 (by kernel_rfl) rfl
theorem enter_ord : ∀ args w, (callFunc 122 args).run Tryz.prog w = .ok (.enter 122 args) w := Go.Proofs.enters_of Tryz.func122 (by kernel_rfl) rfl
theorem enter_nil : ∀ args w, (callFunc 96 args).run Tryz.prog w = .ok (.enter 96 args) w := Go.Proofs.enters_of Tryz.func96 (by kernel_rfl) rfl
theorem ins_nil (w : World) (f : Value) : Calls Tryz.prog 153 #[.slice none 0 0, .int .i64 0, .int .i64 0, f] w fun e w' => e = .returned (.tuple #[]) ∧ w' = w := by
 go_enter Tryz.func153, Tryz.ntmps153
 go_wp2_with fail
 go_loop [8] (fun iv => iv = .int .i64 1) (fun _ => 0)
 case atStart => rfl
 case round =>
  subst hrel
  go_wp2_with fail
  go_end0
  exact ⟨rfl, rfl⟩
theorem pdq_nil (w : World) (z : Int) (f : Value) : Calls Tryz.prog 138 #[.slice none 0 0, .int .i64 0, .int .i64 0, .int .i64 z, f] w fun e w' => e = .returned (.tuple #[]) ∧ w' = w := by
 go_enter Tryz.func138, Tryz.ntmps138
 go_wp2_with fail
 go_loop [1, 2] (fun iv jv => iv = .int .i64 0 ∧ jv = .int .i64 0) (fun _ _ => 0)
 case atStart => exact ⟨rfl, rfl⟩
 case round =>
  obtain ⟨rfl, rfl⟩ := hrel
  go_wp2_with fail
  refine (ins_nil w f).mono ?_
  rintro e _ ⟨rfl, rfl⟩
  go_wp2_with fail
  exact bodyPost_ret (results_none rfl _ _ _) rfl ⟨rfl, rfl⟩
theorem PermIn.perm {d d' : Array Tx} (h : Go.Sort.PermIn 0 d.size d d') : d'.size = d.size ∧ d'.toList.Perm d.toList := by
 refine ⟨h.1, ?_⟩
 have h2 := h.2.2
 have e1 : d.extract 0 d.size = d := by simp
 have e2 : d'.extract 0 d.size = d' := by rw [← h.1]; simp
 rwa [e1, e2] at h2
theorem SortedIn.pair {d' : Array Tx} {n : Nat} (hs : d'.size = n) (h : Go.Sort.SortedIn (Go.Proofs.ltOf fun x y : Tx => Go.Lib.compareInt x.c y.c) 0 n d') : d'.toList.Pairwise (fun a b => a.c ≤ b.c) := by
 rw [List.pairwise_iff_getElem]
 intro i j hi hj hij
 have h1 := h i j (Nat.zero_le _) hij (by rw [← hs]; simpa using hj)
 rw [lt_c] at h1
 have hi2 : i < d'.size := by simpa using hi
 have hj2 : j < d'.size := by simpa using hj
 rw [getElem!_pos d' i hi2, getElem!_pos d' j hj2] at h1
 simp at h1 ⊢
 exact h1
set_option maxHeartbeats 2000000 in
theorem sort_t {w : World} {B : Nat} {v : Value} {d : List Tx} (hv : Ow 59 et 4 w B v d) (hn : d.length ≤ 100000000) :
  Calls Tryz.prog 121 #[v, .func (.func 122) #[] #[]] w fun e w' => e = .returned (.tuple #[]) ∧ ∃ d', d'.Perm d ∧ d'.Pairwise (fun a b => a.c ≤ b.c) ∧ Ow 59 et 4 w' B v d' ∧ w.grownBy w' v.ownBlock := by
 rcases hv.form with ⟨rfl, rfl⟩ | ⟨g, cap, cur, rfl, hB, hlt, hh, hcap, hm, -, -⟩
 ·have wr : IntKind.u64.wrap 0 = 0 := by rfl
  have hl : Calls Tryz.prog 139 #[.int .u64 0] w fun e w' => (∃ l : Int, e = .returned (.int .i64 l)) ∧ w' = w := by
   have h := Go.Proofs.Any.bits_Len (Go.Proofs.SlLaysF0.n15.bits (P := Tryz.prog) (ρ := Go.Proofs.Tryz.sortTm_ren) { Go.Proofs.Tryz.sortTm with }) 0 w (by omega) (by omega)
   exact h.mono fun e w' ⟨h1, h2⟩ => ⟨⟨_, h1⟩, h2⟩
  clear hv
  go_enter Tryz.func121, Tryz.ntmps121
  go_wp2_with fail
  refine hl.mono ?_
  rintro e _ ⟨⟨l, rfl⟩, rfl⟩
  go_wp2_with fail
  refine (pdq_nil _ l _).mono ?_
  rintro e _ ⟨rfl, rfl⟩
  go_wp2_with fail
  go_end0
  exact ⟨rfl, [], List.Perm.refl _, List.Pairwise.nil, Ow.nil _ _ _ _ _, only_refl _ _⟩
 ·have hcmp : Go.Proofs.CmpLays Tryz.prog 122 #[] et 4 (fun x y => Go.Lib.compareInt x.c y.c) g 0 d.toArray.size w := fun _ _ _ _ x y => ord_c x y _
  have hcon := Go.Proofs.AnyQ.slices_SortFunc Go.Proofs.Tryz.sortTm 4 (fun w => by rfl) (fun w => by rfl) et et_len et_one (fun x y : Tx => Go.Lib.compareInt x.c y.c) swo_c 122 #[] g 0 cap d.toArray w enter_ord hcmp (hv.holdsK et_len (by omega)) hlt (by simp; omega)
  have e0 : d.toArray.size = d.length := by simp
  rw [e0] at hcon
  change Calls Tryz.prog 121 _ _ _ at hcon
  refine hcon.mono ?_
  rintro e w' ⟨he, d', n, os, hp, hs, rfl⟩
  rw [← e0] at hp
  obtain ⟨h1, h2⟩ := PermIn.perm hp
  have h3 : d'.size = d.length := by rw [h1, e0]
  obtain ⟨k1, k2⟩ := hv.sorted et_len (by omega) h3 n os
  refine ⟨he, d'.toList, h2, SortedIn.pair h3 hs, ?_, k2⟩
  rw [show d'.toList.length = d.length by simpa using h3] at k1
  exact k1
set_option maxHeartbeats 2000000 in
theorem rising_t {w : World} {v : Value} {d : List Tx} (hv : Lr et 4 w v d) (hn : d.length ≤ 100000000) :
  Calls Tryz.prog 93 #[v] w fun e w' => ∃ v' d', e = .returned v' ∧ Lr et 4 w' v' d' ∧ d'.Perm (d.filter fun x => !decide (x.c < 0)) ∧ d'.Pairwise (fun a b => a.c ≤ b.c) ∧ Below w.heap.size w w' := by
 have HC := hide (clone_t hv hn)
 have hvs : ∃ A n c, v = .slice A n c := by
  obtain ⟨A, c, rfl, _⟩ := hv
  exact ⟨_, _, _, rfl⟩
 obtain ⟨A, n, c, rfl⟩ := hvs
 clear hv
 go_enter Tryz.func93, Tryz.ntmps93
 go_wp2_with fail
 refine HC.out.mono ?_
 rintro e w1 ⟨v1, rfl, o1, b1⟩
 have HD := hide (delete_f (fun x => decide (x.c < 0)) enter_low o1 hn (fun W _ x _ => low_c x W))
 have O1 := hide o1
 have B1 := hide b1
 clear o1 b1 HC
 go_wp2_with fail
 refine HD.out.mono ?_
 rintro e w2 ⟨v2, rfl, o2, g2⟩
 have B2 := hide (below_own B1.out O1.out g2 B1.out.size)
 have HS := hide (sort_t o2 (Nat.le_trans (List.length_filter_le _ _) hn))
 have O2 := hide o2
 clear o2 g2 HD O1 B1
 go_wp2_with fail
 refine HS.out.mono ?_
 rintro e w3 ⟨rfl, d', hp, hs, o3, g3⟩
 have F := hide (And.intro (o3.rl et_len) (And.intro hp (And.intro hs (below_own B2.out O2.out g3 B2.out.size))))
 clear o3 g3 hp hs HS O2 B2
 go_wp2_with fail
 go_ret
 exact ⟨_, d', rfl, F.out⟩
def Mk (d1 : List Tx) (k : Nat) (os : List Tx) : Prop := Rs (tms os) ∧ (∀ x ∈ os, ∀ y ∈ d1.drop k, x.c ≤ y.c) ∧ (∀ c, gsum (tms os) c = gsum (tms (d1.take k)) c) ∧ os.length ≤ k
theorem Mk.start (d1 : List Tx) : Mk d1 0 [] := ⟨Rs.nil, fun x h => absurd h List.not_mem_nil, fun c => rfl, Nat.le_refl _⟩
theorem drop_cons {d1 : List Tx} {k : Nat} {t : Tx} (h : d1[k]? = some t) : d1.drop k = t :: d1.drop (k + 1) := by
 have hk := (List.getElem?_eq_some_iff.1 h).1
 rw [List.drop_eq_getElem_cons hk]
 rw [show d1[k] = t from (List.getElem?_eq_some_iff.1 h).2]
theorem Mk.step {d1 os os' : List Tx} {k : Nat} {t : Tx} (h : Mk d1 k os) (ht : d1[k]? = some t) (hs : d1.Pairwise (fun a b => a.c ≤ b.c)) (h0 : 0 ≤ t.c) (he : tms os' = mg (tms os) (tm t)) (hl : os'.length ≤ os.length + 1) : Mk d1 (k + 1) os' := by
 obtain ⟨h1, h2, h3, h4⟩ := h
 have hd := drop_cons ht
 have hle : ∀ x ∈ tms os, x.1 ≤ (tm t).1 := by
  intro x hx
  obtain ⟨y, hy, rfl⟩ := List.mem_map.1 hx
  exact h2 y hy t (by rw [hd]; simp)
 obtain ⟨k1, k2⟩ := Rs.mg h1 (t := tm t) h0 hle
 refine ⟨by rw [he]; exact k1, fun x hx y hy => ?_, fun c => ?_, by omega⟩
 ·have hx2 := k2 (tm x) (by rw [← he]; exact List.mem_map.2 ⟨x, hx, rfl⟩)
  have hs2 : (d1.drop k).Pairwise (fun a b => a.c ≤ b.c) := hs.sublist (List.drop_sublist _ _)
  rw [hd] at hs2
  have := (List.pairwise_cons.1 hs2).1 y hy
  have hx3 : x.c ≤ t.c := hx2
  omega
 ·rw [he, gsum_mg, h3, tms_snoc ht, gsum_snoc]
theorem tms_set (xs : List Tx) (l t : Tx) (z : Rx) (hz : z.r = l.x.r + t.x.r) (h : l.c = t.c) : tms ((xs ++ [l]).set xs.length ⟨l.c, z⟩) = mg (tms (xs ++ [l])) (tm t) := by
 rw [tms_append, show tms [l] = [tm l] from rfl, mg_same _ _ _ (show (tm l).1 = (tm t).1 from h)]
 rw [List.set_append_right _ _ (Nat.le_refl _)]
 simp [tms, tm, hz]
theorem tms_push (xs : List Tx) (l t : Tx) (z : Rx) (hz : z.r = t.x.r) (h : l.c ≠ t.c) : tms (xs ++ [l] ++ [⟨t.c, z⟩]) = mg (tms (xs ++ [l])) (tm t) := by
 rw [tms_append (xs ++ [l]), tms_append xs, show tms [l] = [tm l] from rfl, mg_other _ _ _ (show (tm l).1 ≠ (tm t).1 from h)]
 simp [tms, tm, hz]
theorem tms_first (t : Tx) (z : Rx) (hz : z.r = t.x.r) : tms [⟨t.c, z⟩] = mg (tms []) (tm t) := by
 rw [show tms [] = [] from rfl, mg_nil]
 simp [tms, tm, hz]
theorem Tg.put3 {W : World} {B g n c i K M : Nat} {os : List Tx} {l : Tx} {z : Rx} (T : Tg W B (.slice (some ⟨g, 0, none⟩) n c) os K) (hl : os[i]? = some l) (rz : Rg W B z M) (hK : K ≤ M) :
  Tg (((W.setCell ⟨g, i * 4 + 1, none⟩ (.bool z.s)).setCell ⟨g, i * 4 + 2, none⟩ (sv z.u)).setCell ⟨g, i * 4 + 3, none⟩ (sv z.t)) B (.slice (some ⟨g, 0, none⟩) n c) (os.set i ⟨l.c, z⟩) M := by
 have ho : W.grownBy (((W.setCell ⟨g, i * 4 + 1, none⟩ (.bool z.s)).setCell ⟨g, i * 4 + 2, none⟩ (sv z.u)).setCell ⟨g, i * 4 + 3, none⟩ (sv z.t)) (some g) :=
  only_set (p := ⟨g, i * 4 + 3, none⟩) (only_set (p := ⟨g, i * 4 + 2, none⟩) (only_set (p := ⟨g, i * 4 + 1, none⟩) (only_refl W (some g)) rfl _) rfl _) rfl _
 have hot : ∀ h, some g = some h → Ot W h := fun h e => T.1.ot h (by rw [← e]; rfl)
 refine ⟨T.1.put3 hl z, fun x hx => ?_⟩
 rcases List.mem_or_eq_of_mem_set hx with h | rfl
 ·exact ((T.2 x h).more hK).grownT ho hot
 ·exact rz.grownT ho hot
theorem below_sets {B : Nat} {w W : World} {g : Nat} (h : Below B w W) (hg : B ≤ g) (i j k : Nat) (a b c : Value) : Below B w (((W.setCell ⟨g, i, none⟩ a).setCell ⟨g, j, none⟩ b).setCell ⟨g, k, none⟩ c) :=
 ((h.setCell (p := ⟨g, i, none⟩) hg a).setCell (p := ⟨g, j, none⟩) hg b).setCell (p := ⟨g, k, none⟩) hg c
theorem Tg.more {W : World} {B K M : Nat} {v : Value} {os : List Tx} (T : Tg W B v os K) (hK : K ≤ M) : Tg W B v os M := ⟨T.1, fun x hx => (T.2 x hx).more hK⟩
theorem Tg.mono {W : World} {B B' K : Nat} {v : Value} {os : List Tx} (T : Tg W B v os K) (hB : B' ≤ B) : Tg W B' v os K := ⟨T.1.mono hB, fun x hx => (T.2 x hx).mono hB⟩
theorem Tg.push {W W' : World} {B K M : Nat} {v v' : Value} {os : List Tx} {y : Tx} (T : Tg W B v os K) (ho : Ow 59 et 4 W' B v' (os ++ [y])) (hg : W.grownBy W' v.ownBlock) (ry : Rg W B y.x M) (hK : K ≤ M) : Tg W' B v' (os ++ [y]) M := by
 refine ⟨ho, fun x hx => ?_⟩
 rcases List.mem_append.1 hx with h | h
 ·exact ((T.2 x h).more hK).grownT hg (fun g e => T.1.ot g e)
 ·simp at h
  subst h
  exact ry.grownT hg (fun g e => T.1.ot g e)
theorem box_cells {W : World} {g : Nat} {a b c e : Value} {T : TypeId} (h : W.heap[g]? = some (.cells #[a, b, c, e] T (0, 0))) : W.cell? ⟨g, 0, none⟩ = some a ∧ W.cell? ⟨g, 1, none⟩ = some b ∧ W.cell? ⟨g, 2, none⟩ = some c ∧ W.cell? ⟨g, 3, none⟩ = some e :=
 ⟨cell_of_row W g 0 _ _ _ h, cell_of_row W g 1 _ _ _ h, cell_of_row W g 2 _ _ _ h, cell_of_row W g 3 _ _ _ h⟩
theorem box_alloc {W : World} {g : Nat} {x : Obj} (h : W.heap[g]? = some x) (o : Obj) : (W.alloc o).heap[g]? = some x := (Below.heap_alloc W o g (Array.getElem?_eq_some_iff.1 h).1).trans h
set_option maxHeartbeats 8000000 in
theorem make_t {w : World} {v : Value} {d : List Tx} {L : Nat} (hv : Tv w v d L) (hn : d.length ≤ 100000) (h1 : 1 ≤ L) (hL : L ≤ 1000000) :
  Calls Tryz.prog 54 #[v] w fun e w' => ∃ v' d', e = .returned v' ∧ Tg w' w.heap.size v' d' (d.length * (L + 1) + 1) ∧ Fm (tms d') ∧ (∀ c, 0 ≤ c → gsum (tms d') c = gsum (tms d) c) ∧ d'.length ≤ d.length ∧ Below w.heap.size w w' := by
 obtain ⟨i0, hi, hz0, hz1, hz2⟩ := info_parts info_tm
 have HR := hide (rising_t hv.1 (by omega))
 have HV := hide hv
 have hvs : ∃ A n c, v = .slice A n c := by
  obtain ⟨A, c, rfl, _⟩ := hv.1
  exact ⟨_, _, _, rfl⟩
 obtain ⟨A, n, c, rfl⟩ := hvs
 have DN := hide hn
 clear hv hn
 go_enter Tryz.func54, Tryz.ntmps54
 go_wp2_with fail
 refine HR.out.mono ?_
 rintro e w1 ⟨v1, d1, rfl, r1, hp, hs, b1⟩
 obtain ⟨A1, c1, e1, hc1, hc2, hc3⟩ := id r1
 have P := hide hp
 have S := hide hs
 have B1 := hide b1
 have D1 := hide (show d1.length ≤ d.length by rw [hp.length_eq]; exact List.length_filter_le _ _)
 have hmem : ∀ x ∈ d1, 0 ≤ x.c ∧ x ∈ d := by
  intro x hx
  have := hp.mem_iff.1 hx
  rw [List.mem_filter] at this
  exact ⟨by have := this.2; simp at this; omega, this.1⟩
 have HM := hide hmem
 have hg1 : ∀ c, 0 ≤ c → gsum (tms d1) c = gsum (tms d) c := by
  intro c hc
  rw [gsum_perm (show (tms d1).Perm (tms (d.filter fun x => !decide (x.c < 0))) from hp.map _)]
  have e : tms (d.filter fun x => !decide (x.c < 0)) = (tms d).filter (fun t => !decide (t.1 < 0)) := by
   unfold tms
   rw [List.filter_map]
   rfl
  rw [e, gsum_filter]
  intro t ht hf
  simp at hf
  exact .inl (by omega)
 have GS := hide hg1
 obtain ⟨n1, hlen⟩ : ∃ n1, n1 = d1.length := ⟨_, rfl⟩
 rw [← hlen] at hc1 e1
 subst e1
 have R1 := hide r1
 have HN := hide hlen
 have hn1 : n1 ≤ 100000 := by have := D1.out; have := DN.out; omega
 have HKE := hide (show n1 * (L + 1) + 1 ≤ 1000000000000 by have := Nat.mul_le_mul hn1 (show L + 1 ≤ 1000001 by omega); omega)
 clear hc3 r1 hp hs b1 hmem hg1 hlen HR
 go_wp2_with fail
 go_loopw [3, 10] (fun ov iv wr => ∃ (k : Nat) (os : List Tx), k ≤ n1 ∧ iv = .int .i64 (k : Int) ∧ Hid (Mk d1 k os) ∧ Hid (Below w1.heap.size w1 wr) ∧ Hid (Tg wr w1.heap.size ov os (k * (L + 1) + 1))) (fun _ iv _ => n1 - (intOf iv).toNat)
 case atStart => exact ⟨0, [], Nat.zero_le _, rfl, hide (Mk.start d1), hide (Below.refl _ _), hide ⟨Ow.nil _ _ _ _ _, fun x hx => by cases hx⟩⟩
 case round =>
  obtain ⟨k, os, hk, rfl, M, B', T⟩ := hrel
  have B := hide (B1.out.trans (B'.out.mono B1.out.size))
  by_cases hlt : k < n1
  ·obtain ⟨t, ht⟩ := len_of (d := d1) (k := k) (by rw [← HN.out]; exact hlt)
   have HX := hide ((HV.out.2 t (HM.out t (List.mem_of_getElem? ht)).2).step B.out)
   obtain ⟨b, off, rfl, hb, hc⟩ := (R1.out.step B'.out).get ht
   have c0 := hc 0 _ rfl
   have c1 := hc 1 _ rfl
   have c2 := hc 2 _ rfl
   have c3 := hc 3 _ rfl
   rw [Nat.add_zero] at c0
   have HK := hide (show k * (L + 1) + 1 ≤ 1000000000000 by have := Nat.mul_le_mul (show k ≤ 100000 by omega) (show L + 1 ≤ 1000001 by omega); omega)
   have HMM := hide (show k * (L + 1) + 1 + L + 1 = (k + 1) * (L + 1) + 1 by rw [Nat.add_mul k 1]; omega)
   have l0 : (0 : Int) ≤ (k : Int) := by omega
   have l1 : (k : Int) < (n1 : Int) := by omega
   have b8 := (Below.refl wr.heap.size wr).alloc (Nat.le_refl _) (.cells #[.int .i64 t.c, .bool t.x.s, sv t.x.u, sv t.x.t] 59)
   have X8 := hide (HX.out.step b8)
   have B8' := hide (Below.step B'.out B'.out.size b8)
   have T8 := hide (T.out.step b8)
   have E8 := hide (heap_alloc_new wr (.cells #[.int .i64 t.c, .bool t.x.s, sv t.x.u, sv t.x.t] 59))
   have HT := hide ht
   have T0 := hide (HM.out t (List.mem_of_getElem? ht)).1
   have TL := hide (fun g (e : u3.ownBlock = some g) => (T.out.1.lt e).2)
   clear hc hb ht b8 B B' T HX
   rcases snoc_or os with rfl | ⟨xs, l, rfl⟩
   ·have ov9 : ∃ A9 c9, u3 = .slice A9 0 c9 := by
     rcases T8.out.1.form with ⟨rfl, e⟩ | ⟨g, cap, cur, rfl, _⟩
     ·exact ⟨_, _, rfl⟩
     ·exact ⟨_, _, rfl⟩
    obtain ⟨A9, c9, rfl⟩ := ov9
    have e0 := cell_of_row _ wr.heap.size 0 _ _ _ E8.out
    have t0 : decide ((0 : Int) ≤ -1) = false := rfl
    go_wp2_with fail
    go_quiet (fail)
    have b9 := below_drewN (Below.refl (wr.alloc (.cells #[.int .i64 t.c, .bool t.x.s, sv t.x.u, sv t.x.t] 59)).heap.size (wr.alloc (.cells #[.int .i64 t.c, .bool t.x.s, sv t.x.u, sv t.x.t] 59))) nq
    have b9 := b9.drew
    have X9 := hide (X8.out.step b9)
    have C9' := hide (Below.step B8'.out B8'.out.size b9)
    have T9 := hide (T8.out.step b9)
    have E9 := hide ((b9.block wr.heap.size (by simp)).trans E8.out)
    clear e0 b9 X8 B8' T8 E8 c0 c1 c2 c3
    go_wp2_with fail
    generalize ((wr.alloc (Obj.cells #[Value.int IntKind.i64 t.c, Value.bool t.x.s, sv t.x.u, sv t.x.t] 59)).drewN nq) = w5 at *
    have e0 := cell_of_row _ wr.heap.size 0 _ _ _ E9.out
    have e1 := cell_of_row _ wr.heap.size 1 _ _ _ E9.out
    have e2 := cell_of_row _ wr.heap.size 2 _ _ _ E9.out
    have e3 := cell_of_row _ wr.heap.size 3 _ _ _ E9.out
    go_region_held3 (fun W => W.cell? ⟨wr.heap.size, 0, none⟩ = some (.int .i64 t.c) ∧ W.cell? ⟨wr.heap.size, 1, none⟩ = some (.bool t.x.s) ∧ W.cell? ⟨wr.heap.size, 2, none⟩ = some (sv t.x.u) ∧ W.cell? ⟨wr.heap.size, 3, none⟩ = some (sv t.x.t))
      (with_reducible first | exact box_cells E9.out | exact box_cells E7.out | exact box_cells (box_alloc E7.out _) | exact box_cells E6.out)
      (first
       | (go_at_call 55; refine Calls.mono (form_g X9.out h1 (by omega)) ?_; rintro e wx ⟨z, rfl, hz, rz, bx⟩; have O7 := hide (T9.out.step bx); have C7 := hide (Below.step C9'.out C9'.out.size bx); have Z7 := hide ((rz.mono C9'.out.size).more (M := (k + 1) * (L + 1) + 1) (by have := HMM.out; omega)); have H7 := hide hz; have E7 := hide ((bx.block wr.heap.size (Array.getElem?_eq_some_iff.1 E9.out).1).trans E9.out); clear rz hz bx)
       | (refine step_pushE rfl (.tmp 41) (.tmp 48) 22 rfl Tryz.underlying22 hi hz0 hz1 hz2 rfl (by omega) et_len et_one wx w1.heap.size _ [] ⟨t.c, z⟩ _ rfl O7.out.1 rfl rfl (by simp) (by decide) C7.out.size ?_; intro v' w' ho hg; have TF := hide (O7.out.push ho hg.1 Z7.out (by have := HMM.out; omega)); have CF := hide (below_own C7.out O7.out.1 hg.1 C7.out.size); have E6 := hide ((hg.1.block wr.heap.size (Array.getElem?_eq_some_iff.1 E7.out).1 (fun e => by have := TL.out wr.heap.size e.symm; omega)).trans E7.out); clear ho hg))
    have MF := hide (M.out.step (os' := [] ++ [⟨t.c, z⟩]) HT.out S.out T0.out (tms_first t z H7.out) (by simp))
    clear e0 e1 e2 e3 X9 C9' T9 E9
    go_wp2_with fail
    exact ⟨⟨k + 1, _, by omega, by go_num, MF, CF, TF⟩, by simp [intOf]; omega⟩
   ·have ov9 : ∃ g c9, u3 = .slice (some ⟨g, 0, none⟩) (xs.length + 1) c9 := by
     rcases T8.out.1.form with ⟨_, e⟩ | ⟨g, cap, cur, rfl, _⟩
     ·simp at e
     ·exact ⟨g, cap, by simp⟩
    obtain ⟨g, c9, rfl⟩ := ov9
    have hgl := TL.out g rfl
    have hl : (xs ++ [l])[xs.length]? = some l := by simp
    obtain ⟨q0, q1, q2, q3⟩ := T8.out.1.cells hl
    have HL := hide hl
    obtain ⟨m, hm⟩ : ∃ m, m = xs.length := ⟨_, rfl⟩
    rw [← hm] at T8 HL q0 q1 q2 q3
    have hml : m + 1 ≤ 100000 := by have := M.out.2.2.2; simp at this; omega
    have HMX := hide hm
    rw [← hm]
    have hw : IntKind.i64.wrap (m : Int) = (m : Int) := IntWalk.i64_in _ (by omega)
    have e0 := cell_of_row _ wr.heap.size 0 _ _ _ E8.out
    have l2 : (0 : Int) ≤ (m : Int) := by omega
    have l3 : (m : Int) < ((m + 1 : Nat) : Int) := by omega
    have t0 : decide ((0 : Int) ≤ (m : Int)) = true := decide_eq_true l2
    clear hl hm
    by_cases hq : l.c = t.c
    ·have t1 : (l.c == t.c) = true := beq_iff_eq.2 hq
     go_wp2_with fail
     go_quiet (fail)
     have b9 := below_drewN (Below.refl (wr.alloc (.cells #[.int .i64 t.c, .bool t.x.s, sv t.x.u, sv t.x.t] 59)).heap.size (wr.alloc (.cells #[.int .i64 t.c, .bool t.x.s, sv t.x.u, sv t.x.t] 59))) nq
     have b9 := b9.drew
     have X9 := hide (X8.out.step b9)
     have C9' := hide (Below.step B8'.out B8'.out.size b9)
     have T9 := hide (T8.out.step b9)
     have E9 := hide ((b9.block wr.heap.size (by simp)).trans E8.out)
     clear q0 q1 q2 q3 e0 b9 X8 B8' T8 E8 c0 c1 c2 c3
     go_wp2_with fail
     generalize ((wr.alloc (Obj.cells #[Value.int IntKind.i64 t.c, Value.bool t.x.s, sv t.x.u, sv t.x.t] 59)).drewN nq) = w5 at *
     obtain ⟨q0, q1, q2, q3⟩ := T9.out.1.cells HL.out
     have e1 := cell_of_row _ wr.heap.size 1 _ _ _ E9.out
     have e2 := cell_of_row _ wr.heap.size 2 _ _ _ E9.out
     have e3 := cell_of_row _ wr.heap.size 3 _ _ _ E9.out
     have RL := hide (T9.out.2 l (by simp)).ra
     go_region_with (first
       | (go_at_call 94; refine Calls.mono (add_g RL.out X9.out (by omega) h1 HK.out (by omega)) ?_; rintro e wx ⟨z, rfl, hz, rz, bx⟩; obtain ⟨q0, q1, q2, q3⟩ := (T9.out.1.step bx).cells HL.out; have f1 := (T9.out.1.step bx).frozen rfl (m * 4 + 1); have f2 := (T9.out.1.step bx).frozen rfl (m * 4 + 2); have f3 := (T9.out.1.step bx).frozen rfl (m * 4 + 3); have TF := hide (Tg.put3 (T9.out.step bx) HL.out ((rz.mono C9'.out.size).more (M := (k + 1) * (L + 1) + 1) (by have := HMM.out; omega)) (by have := HMM.out; omega)); have CF := hide (below_sets (Below.step C9'.out C9'.out.size bx) ((T9.out.1.lt rfl).1) (m * 4 + 1) (m * 4 + 2) (m * 4 + 3) (.bool z.s) (sv z.u) (sv z.t)); have MF := hide (M.out.step (os' := (xs ++ [l]).set m ⟨l.c, z⟩) HT.out S.out T0.out (by rw [HMX.out]; exact tms_set xs l t z hz hq) (by simp)); clear bx rz hz))
     all_goals
      clear q0 q1 q2 q3 f1 f2 f3 X9 C9' T9 E9 RL
      go_wp2_with fail
      exact ⟨⟨k + 1, _, by omega, by go_num, MF, CF, TF⟩, by simp [intOf]; omega⟩
    ·have t1 : (l.c == t.c) = false := beq_eq_false_iff_ne.2 hq
     go_wp2_with fail
     go_quiet (fail)
     have b9 := below_drewN (Below.refl (wr.alloc (.cells #[.int .i64 t.c, .bool t.x.s, sv t.x.u, sv t.x.t] 59)).heap.size (wr.alloc (.cells #[.int .i64 t.c, .bool t.x.s, sv t.x.u, sv t.x.t] 59))) nq
     have b9 := b9.drew
     have X9 := hide (X8.out.step b9)
     have C9' := hide (Below.step B8'.out B8'.out.size b9)
     have T9 := hide (T8.out.step b9)
     have E9 := hide ((b9.block wr.heap.size (by simp)).trans E8.out)
     clear q0 q1 q2 q3 e0 b9 X8 B8' T8 E8 c0 c1 c2 c3
     go_wp2_with fail
     generalize ((wr.alloc (Obj.cells #[Value.int IntKind.i64 t.c, Value.bool t.x.s, sv t.x.u, sv t.x.t] 59)).drewN nq) = w5 at *
     have e0 := cell_of_row _ wr.heap.size 0 _ _ _ E9.out
     have e1 := cell_of_row _ wr.heap.size 1 _ _ _ E9.out
     have e2 := cell_of_row _ wr.heap.size 2 _ _ _ E9.out
     have e3 := cell_of_row _ wr.heap.size 3 _ _ _ E9.out
     have HLEN := hide (show (xs ++ [l]).length + 1 ≤ 1000000000000 by have := HMX.out; simp; omega)
     go_region_held3 (fun W => W.cell? ⟨wr.heap.size, 0, none⟩ = some (.int .i64 t.c) ∧ W.cell? ⟨wr.heap.size, 1, none⟩ = some (.bool t.x.s) ∧ W.cell? ⟨wr.heap.size, 2, none⟩ = some (sv t.x.u) ∧ W.cell? ⟨wr.heap.size, 3, none⟩ = some (sv t.x.t))
      (with_reducible first | exact box_cells E9.out | exact box_cells E7.out | exact box_cells (box_alloc E7.out _) | exact box_cells E6.out)
      (first
       | (go_at_call 55; refine Calls.mono (form_g X9.out h1 (by omega)) ?_; rintro e wx ⟨z, rfl, hz, rz, bx⟩; have O7 := hide (T9.out.step bx); have C7 := hide (Below.step C9'.out C9'.out.size bx); have Z7 := hide ((rz.mono C9'.out.size).more (M := (k + 1) * (L + 1) + 1) (by have := HMM.out; omega)); have H7 := hide hz; have E7 := hide ((bx.block wr.heap.size (Array.getElem?_eq_some_iff.1 E9.out).1).trans E9.out); clear rz hz bx)
       | (refine step_pushE rfl (.tmp 41) (.tmp 48) 22 rfl Tryz.underlying22 hi hz0 hz1 hz2 rfl (by omega) et_len et_one wx w1.heap.size _ (xs ++ [l]) ⟨t.c, z⟩ _ rfl O7.out.1 rfl rfl HLEN.out (by decide) C7.out.size ?_; intro v' w' ho hg; have TF := hide (O7.out.push ho hg.1 Z7.out (by have := HMM.out; omega)); have CF := hide (below_own C7.out O7.out.1 hg.1 C7.out.size); have E6 := hide ((hg.1.block wr.heap.size (Array.getElem?_eq_some_iff.1 E7.out).1 (fun e => by have e2 : wr.heap.size = g := Option.some.inj e; omega)).trans E7.out); clear ho hg))
     have MF := hide (M.out.step (os' := xs ++ [l] ++ [⟨t.c, z⟩]) HT.out S.out T0.out (tms_push xs l t z H7.out hq) (by simp))
     clear e0 e1 e2 e3 X9 C9' T9 E9
     go_wp2_with fail
     exact ⟨⟨k + 1, _, by omega, by go_num, MF, CF, TF⟩, by simp [intOf]; omega⟩
  ·obtain rfl : k = n1 := by omega
   have hdl := M.out.2.2.2
   have HD := hide (delete_f (B := w1.heap.size) (fun x => decide (x.x.r = 0)) enter_nil T.out.1 (by omega) (fun W hg x hx => nil_c ((T.out.2 x hx).grownT hg (fun g e => T.out.1.ot g e)).ra HKE.out))
   have hvs : ∃ A n c, u3 = .slice A n c := by
    rcases T.out.1.form with ⟨rfl, _⟩ | ⟨g, cap, cur, rfl, _⟩
    ·exact ⟨_, _, _, rfl⟩
    ·exact ⟨_, _, _, rfl⟩
   obtain ⟨A2, n2, c2, rfl⟩ := hvs
   go_wp2_with fail
   refine HD.out.mono ?_
   rintro e w9 ⟨v9, rfl, o9, g9⟩
   have hot : ∀ g, (Value.slice A2 n2 c2).ownBlock = some g → Ot wr g := fun g e => T.out.1.ot g e
   have ef : tms (os.filter fun x => !decide (x.x.r = 0)) = (tms os).filter (fun t => !decide (t.2 = 0)) := by
    unfold tms
    rw [List.filter_map]
    rfl
   obtain ⟨fm1, fm2⟩ := M.out.1.fm (fun t => !decide (t.2 = 0)) (fun t _ => by simp)
   have hkn : k * (L + 1) + 1 ≤ d.length * (L + 1) + 1 := by
    have h : k ≤ d.length := by have := D1.out; rw [HN.out]; exact this
    have := Nat.mul_le_mul_right (L + 1) h
    omega
   have F1 := hide (show Tg w9 w.heap.size v9 (os.filter fun x => !decide (x.x.r = 0)) (d.length * (L + 1) + 1) from
    ⟨o9.mono B1.out.size, fun x hx => (((T.out.2 x (List.mem_filter.1 hx).1).grownT g9 hot).mono B1.out.size).more hkn⟩)
   have F2 := hide (show Fm (tms (os.filter fun x => !decide (x.x.r = 0))) by rw [ef]; exact fm1)
   have F3 := hide (show ∀ c, 0 ≤ c → gsum (tms (os.filter fun x => !decide (x.x.r = 0))) c = gsum (tms d) c from fun c hc => by
    rw [ef, fm2, M.out.2.2.1, List.take_of_length_le (by rw [← HN.out]; exact Nat.le_refl _), GS.out c hc])
   have F4 := hide (show (os.filter fun x => !decide (x.x.r = 0)).length ≤ d.length from Nat.le_trans (List.length_filter_le _ _) (by have := D1.out; have := HN.out; omega))
   have F5 := hide (B1.out.trans ((below_own B'.out T.out.1 g9 B'.out.size).mono B1.out.size))
   clear fm1 fm2 ef hot o9 g9 T M B B' HD
   go_wp2_with fail
   go_ret
   exact ⟨_, _, rfl, F1.out, F2.out, F3.out, F4.out, F5.out⟩
theorem made_flat {α : Type} {enc : α → List Value} {k : Nat} (hk : ∀ x, (enc x).length = k) (h0 : 0 < k) (z : α) (n : Nat) : (madeCells (enc z).toArray (n * k)).toList = flat enc (List.replicate n z) := by
 apply List.ext_getElem?
 intro t
 by_cases ht : t < n * k
 ·have hdiv : t / k < n := Nat.div_lt_of_lt_mul (by rw [Nat.mul_comm]; exact ht)
  have hmod : t % k < k := Nat.mod_lt _ h0
  have e2 := flat_get hk (List.replicate n z) (t / k) z (by simp [hdiv]) (t % k) hmod
  rw [show t / k * k + t % k = t by rw [Nat.mul_comm]; exact Nat.div_add_mod t k] at e2
  rw [e2]
  simp only [madeCells, Array.toList_map, List.getElem?_map, Array.toList_range, List.getElem?_range ht, Option.map_some]
  have hs : (enc z).toArray.size = k := by simp [hk]
  rw [hs, List.getElem?_eq_getElem (by rw [hk]; exact hmod), getElem!_pos (enc z).toArray (t % k) (by rw [hs]; exact hmod)]
  simp
 ·rw [List.getElem?_eq_none (by simp [madeCells]; omega), List.getElem?_eq_none (by rw [flat_len hk]; simp; omega)]
def zx : Tx := ⟨0, ⟨false, (none, 0, 0), (none, 0, 0), 0⟩⟩
theorem made4 (w : World) (B n : Nat) (hB : B ≤ w.heap.size) (hn : n ≤ 100000000) :
  Ow 59 et 4 (w.alloc (.cells (madeCells #[.int .i64 0, .bool false, .slice none 0 0, .slice none 0 0] (n * 4)) 59)) B (.slice (some ⟨w.heap.size, 0, none⟩) n n) (List.replicate n zx) := by
 have h := Ow.lit (B := B) et_len w 59 (List.replicate n zx) (madeCells #[.int .i64 0, .bool false, .slice none 0 0, .slice none 0 0] (n * 4)) (made_flat (enc := et) et_len (by omega) zx n) hB (by simp [maxLen]; omega)
 simpa using h
def Tk (W : World) (B : Nat) (r : Rat) (d : List Tx) (k M : Nat) (cur : List Tx) : Prop := cur.length = d.length ∧ (∀ x ∈ cur.take k, Rg W B x.x M) ∧ tms (cur.take k) = gmul r (tms (d.take k))
theorem Tk.step {W W' : World} {B : Nat} {r : Rat} {d : List Tx} {k M : Nat} {cur : List Tx} (h : Tk W B r d k M cur) (hb : Below W.heap.size W W') : Tk W' B r d k M cur := ⟨h.1, fun x hx => (h.2.1 x hx).step hb, h.2.2⟩
theorem Tk.put {W W' : World} {B : Nat} {r : Rat} {d : List Tx} {k M : Nat} {cur : List Tx} {t : Tx} {z : Rx} {row : Option Nat} (h : Tk W B r d k M cur) (ht : d[k]? = some t) (hz : z.r = r * t.x.r) (rz : Rg W B z M) (hg : W.grownBy W' row) (hn : ∀ g, row = some g → Ot W g) : Tk W' B r d (k + 1) M (cur.set k ⟨t.c, z⟩) := by
 obtain ⟨h1, h2, h3⟩ := h
 have hk := (List.getElem?_eq_some_iff.1 ht).1
 have e : (cur.set k ⟨t.c, z⟩).take (k + 1) = cur.take k ++ [⟨t.c, z⟩] := by
  rw [List.take_succ_eq_append_getElem (by rw [List.length_set, h1]; exact hk), List.take_set_of_le (Nat.le_refl k)]
  simp
 refine ⟨by rw [List.length_set]; exact h1, fun x hx => ?_, ?_⟩
 ·rw [e] at hx
  rcases List.mem_append.1 hx with hx | hx
  ·exact (h2 x hx).grownT hg hn
  ·simp at hx; subst hx; exact rz.grownT hg hn
 ·rw [e, tms_append, h3, tms_snoc ht]
  simp [gmul, tms, tm, hz]
theorem make_tm (n : Nat) (hn : n ≤ 100000000) (W : World) : (Instr.makeSlice 22 (.int .i64 (n : Int)) (.int .i64 (n : Int))).run Tryz.prog W = .ok (.slice (some ⟨W.heap.size, 0, none⟩) n n) (W.alloc (.cells (madeCells #[.int .i64 0, .bool false, .slice none 0 0, .slice none 0 0] (n * 4)) 59)) := by
 obtain ⟨i, hi, hz0, hz1, hz2⟩ := info_parts info_tm
 have h := run_make (P := Tryz.prog) W 22 59 i _ Tryz.underlying22 hi hz0 .i64 .i64 (n : Int) (n : Int) (by omega) (Int.le_refl _) (by rw [hz2]; omega) (by omega)
 rw [hz1, Int.toNat_natCast] at h
 exact h
theorem set4_other {W : World} {b g : Nat} {o : Obj} (h : W.heap[b]? = some o) (hne : b ≠ g) (i j k l : Nat) (x y z u : Value) : ((((W.setCell ⟨g, i, none⟩ x).setCell ⟨g, j, none⟩ y).setCell ⟨g, k, none⟩ z).setCell ⟨g, l, none⟩ u).heap[b]? = some o :=
 ((Below.heap_setCell _ ⟨g, l, none⟩ u b hne).trans ((Below.heap_setCell _ ⟨g, k, none⟩ z b hne).trans ((Below.heap_setCell _ ⟨g, j, none⟩ y b hne).trans (Below.heap_setCell _ ⟨g, i, none⟩ x b hne)))).trans h
theorem two_boxes {W : World} {b h : Nat} {a0 a1 a2 a3 c0 c1 c2 : Value} {T U : TypeId} (h1 : W.heap[b]? = some (.cells #[a0, a1, a2, a3] T (0, 0))) (h2 : W.heap[h]? = some (.cells #[c0, c1, c2] U (0, 0))) :
  W.cell? ⟨b, 0, none⟩ = some a0 ∧ W.cell? ⟨b, 1, none⟩ = some a1 ∧ W.cell? ⟨b, 2, none⟩ = some a2 ∧ W.cell? ⟨b, 3, none⟩ = some a3 ∧ W.cell? ⟨h, 0, none⟩ = some c0 ∧ W.cell? ⟨h, 1, none⟩ = some c1 ∧ W.cell? ⟨h, 2, none⟩ = some c2 :=
 ⟨cell_of_row W b 0 _ _ _ h1, cell_of_row W b 1 _ _ _ h1, cell_of_row W b 2 _ _ _ h1, cell_of_row W b 3 _ _ _ h1, cell_of_row W h 0 _ _ _ h2, cell_of_row W h 1 _ _ _ h2, cell_of_row W h 2 _ _ _ h2⟩
theorem keep_obj {W W' : World} {b : Nat} {o : Obj} (h : W.heap[b]? = some o) (hb : Below W.heap.size W W') : W'.heap[b]? = some o := (hb.block b (Array.getElem?_eq_some_iff.1 h).1).trans h
theorem below_put4 {B : Nat} {w W : World} {g : Nat} (h : Below B w W) (hg : B ≤ g) (i j k l : Nat) (a b c e : Value) : Below B w ((((W.setCell ⟨g, i, none⟩ a).setCell ⟨g, j, none⟩ b).setCell ⟨g, k, none⟩ c).setCell ⟨g, l, none⟩ e) :=
 (((h.setCell (p := ⟨g, i, none⟩) hg a).setCell (p := ⟨g, j, none⟩) hg b).setCell (p := ⟨g, k, none⟩) hg c).setCell (p := ⟨g, l, none⟩) hg e
set_option maxHeartbeats 8000000 in
theorem times_t {w : World} {s : Bool} {A0 D0 : Option Addr} {n0 c0' m0 d0 : Nat} {r : Rat} {K : Nat} {v : Value} {d : List Tx} {L : Nat} (ha : Ra w (rv s (.slice A0 n0 c0') (.slice D0 m0 d0)) r K) (hv : Tv w v d L) (hn : d.length ≤ 100000) (h1 : 1 ≤ L) (hL : L ≤ 1000000) (h2 : 1 ≤ K) (hK : K ≤ 1000000) :
  Calls Tryz.prog 63 #[rv s (.slice A0 n0 c0') (.slice D0 m0 d0), v] w fun e w' => ∃ v' d', e = .returned v' ∧ Tg w' w.heap.size v' d' (K + L) ∧ tms d' = gmul r (tms d) ∧ Below w.heap.size w w' := by
 obtain ⟨A, c, e1, hc1, hc2, hc3⟩ := id hv.1
 have b0 := (Below.refl w.heap.size w).alloc (Nat.le_refl _) (rbox s (.slice A0 n0 c0') (.slice D0 m0 d0))
 have Q0 := hide (Bq.new w s (.slice A0 n0 c0') (.slice D0 m0 d0))
 have HA := hide ha
 have HV := hide hv
 obtain ⟨n, hlen⟩ : ∃ n, n = d.length := ⟨_, rfl⟩
 rw [← hlen] at e1 hn hc1
 subst e1
 have HN := hide hlen
 have hnx : n ≤ 9223372036854775807 := by omega
 have hnz : (0 : Int) ≤ (n : Int) := by omega
 clear hv ha hc3 hlen
 go_enter Tryz.func63, Tryz.ntmps63
 have hmk := make_tm n (by omega) (w.alloc (rbox s (.slice A0 n0 c0') (.slice D0 m0 d0)))
 have O1 := hide (made4 (w.alloc (rbox s (.slice A0 n0 c0') (.slice D0 m0 d0))) w.heap.size n b0.size (by omega))
 generalize madeCells #[.int .i64 0, .bool false, .slice none 0 0, .slice none 0 0] (n * 4) = Z at *
 go_wp2_with fail
 have b1 := (Below.refl _ _).alloc (Nat.le_refl _) (.cells Z 59) (w := w.alloc (rbox s (.slice A0 n0 c0') (.slice D0 m0 d0)))
 have hgs : (w.alloc (rbox s (.slice A0 n0 c0') (.slice D0 m0 d0))).heap.size = w.heap.size + 1 := by simp
 replace Q0 := hide (Q0.out.step b1)
 have B1 := hide (Below.step b0 b0.size b1)
 rw [hgs] at O1
 clear b0 b1 hgs hmk
 generalize ((w.alloc (rbox s (.slice A0 n0 c0') (.slice D0 m0 d0))).alloc (.cells Z 59)) = w1 at *
 have T1 := hide (show Tk w1 w.heap.size r d 0 (K + L) (List.replicate n zx) from ⟨by simp [HN.out], fun x hx => by simp at hx, by simp [tms, gmul]⟩)
 go_loopw [13] (fun iv wr => ∃ (k : Nat) (cur : List Tx), k ≤ n ∧ iv = .int .i64 (k : Int) ∧ Hid (Below w.heap.size w wr) ∧ Bq wr w.heap.size s (.slice A0 n0 c0') (.slice D0 m0 d0) ∧ Hid (Ow 59 et 4 wr w.heap.size (.slice (some ⟨w.heap.size + 1, 0, none⟩) n n) cur) ∧ Hid (Tk wr w.heap.size r d k (K + L) cur)) (fun iv _ => n - (intOf iv).toNat)
 case atStart => exact ⟨0, _, Nat.zero_le _, rfl, B1, Q0.out, O1, T1⟩
 case round =>
  obtain ⟨k, cur, hk, rfl, B, Qb, O, T⟩ := hrel
  by_cases hlt : k < n
  ·obtain ⟨t, ht⟩ := len_of (d := d) (k := k) (by rw [← HN.out]; exact hlt)
   have HX := hide ((HV.out.2 t (List.mem_of_getElem? ht)).step B.out)
   obtain ⟨b, off, rfl, hb, hc⟩ := (HV.out.1.step B.out).get ht
   have c0 := hc 0 _ rfl
   have c1 := hc 1 _ rfl
   have c2 := hc 2 _ rfl
   have c3 := hc 3 _ rfl
   rw [Nat.add_zero] at c0
   have l0 : (0 : Int) ≤ (k : Int) := by omega
   have l1 : (k : Int) < (n : Int) := by omega
   have b8 := (Below.refl wr.heap.size wr).alloc (Nat.le_refl _) (.cells #[.int .i64 t.c, .bool t.x.s, sv t.x.u, sv t.x.t] 59)
   have b8 := b8.drew
   have X8 := hide (HX.out.step b8)
   have A8 := hide ((HA.out.step B.out).step b8)
   have B8 := hide (Below.step B.out B.out.size b8)
   have Q8 := hide (Qb.step b8)
   have O8 := hide (O.out.step b8)
   have T8 := hide (T.out.step b8)
   have E8 := hide (heap_alloc_new wr (.cells #[.int .i64 t.c, .bool t.x.s, sv t.x.u, sv t.x.t] 59))
   have HT := hide ht
   have hgl : w.heap.size + 1 < wr.heap.size := (O.out.lt rfl).2
   clear hc hb ht b8 B T HX O Qb
   go_wp2_with fail
   generalize (wr.alloc (Obj.cells #[Value.int IntKind.i64 t.c, Value.bool t.x.s, sv t.x.u, sv t.x.t] 59)) = w5 at *
   generalize wr.heap.size = gb at *
   have E9 := hide (show w5.drew.heap[gb]? = _ from E8.out)
   have bxs := two_boxes E9.out Q8.out
   have hcl : k < cur.length := by rw [T8.out.1, ← HN.out]; exact hlt
   obtain ⟨y, hy⟩ := len_of hcl
   have HY := hide hy
   clear hcl hy E8
   go_region_held3 (fun W => W.cell? ⟨gb, 0, none⟩ = some (.int .i64 t.c) ∧ W.cell? ⟨gb, 1, none⟩ = some (.bool t.x.s) ∧ W.cell? ⟨gb, 2, none⟩ = some (sv t.x.u) ∧ W.cell? ⟨gb, 3, none⟩ = some (sv t.x.t) ∧ W.cell? ⟨w.heap.size, 0, none⟩ = some (.bool s) ∧ W.cell? ⟨w.heap.size, 1, none⟩ = some (.slice A0 n0 c0') ∧ W.cell? ⟨w.heap.size, 2, none⟩ = some (.slice D0 m0 d0))
    (first | with_reducible exact bxs | with_reducible exact bx7 | exact bx9)
    (first
     | (go_at_call 34; refine Calls.mono (mul_g A8.out X8.out h2 h1 (by omega) (by omega)) ?_; rintro e wx ⟨z, rfl, hz, rz, bx⟩; have E7 := hide (keep_obj E9.out bx); have Q7 := hide (Q8.out.step bx); have C7 := hide (Below.step B8.out B8.out.size bx); have O7 := hide (O8.out.step bx); obtain ⟨q0, q1, q2, q3⟩ := O7.out.cells HY.out; have f0 := O7.out.frozen rfl (k * 4); have f1 := O7.out.frozen rfl (k * 4 + 1); have f2 := O7.out.frozen rfl (k * 4 + 2); have f3 := O7.out.frozen rfl (k * 4 + 3); have Z7 := hide (rz.mono B8.out.size); have T7 := hide (T8.out.step bx); have H7 := hide hz; have bx7 := two_boxes E7.out Q7.out; have bx9 := two_boxes (set4_other E7.out (g := w.heap.size + 1) (by omega) (k * 4) (k * 4 + 1) (k * 4 + 2) (k * 4 + 3) (.int .i64 t.c) (.bool z.s) (sv z.u) (sv z.t)) (set4_other (show wx.heap[w.heap.size]? = _ from Q7.out) (g := w.heap.size + 1) (by omega) (k * 4) (k * 4 + 1) (k * 4 + 2) (k * 4 + 3) (.int .i64 t.c) (.bool z.s) (sv z.u) (sv z.t)); clear rz hz bx))
   have BF := hide (below_put4 C7.out (show w.heap.size ≤ w.heap.size + 1 by omega) (k * 4) (k * 4 + 1) (k * 4 + 2) (k * 4 + 3) (.int .i64 t.c) (.bool z.s) (sv z.u) (sv z.t))
   have QF := hide (show Bq _ w.heap.size s (.slice A0 n0 c0') (.slice D0 m0 d0) from set4_other (show wx.heap[w.heap.size]? = _ from Q7.out) (g := w.heap.size + 1) (by omega) (k * 4) (k * 4 + 1) (k * 4 + 2) (k * 4 + 3) (.int .i64 t.c) (.bool z.s) (sv z.u) (sv z.t))
   have OF := hide (O7.out.put4 (i := k) (List.getElem?_eq_some_iff.1 HY.out).1 ⟨t.c, z⟩)
   have TF := hide (T7.out.put (z := z) HT.out H7.out Z7.out (only_put4 (only_refl wx (some (w.heap.size + 1))) (k * 4) (k * 4 + 1) (k * 4 + 2) (k * 4 + 3) (.int .i64 t.c) (.bool z.s) (sv z.u) (sv z.t)) (fun g e => O7.out.ot g (by rw [← e]; rfl)))
   clear bxs bx7 bx9 q0 q1 q2 q3 f0 f1 f2 f3 E7 Q7 C7 O7 T7 X8 A8 B8 Q8 O8 T8 E9 c0 c1 c2 c3
   go_wp2_with fail
   exact ⟨⟨k + 1, _, by omega, by go_num, BF, QF.out, OF, TF⟩, by simp [intOf]; omega⟩
  ·obtain rfl : k = n := by omega
   have F1 := hide (show Tg wr w.heap.size (.slice (some ⟨w.heap.size + 1, 0, none⟩) k k) cur (K + L) from ⟨O.out, fun x hx => T.out.2.1 x (by rw [List.take_of_length_le (by rw [T.out.1, ← HN.out]; exact Nat.le_refl _)]; exact hx)⟩)
   have F2 := hide (show tms cur = gmul r (tms d) by
    have h := T.out.2.2
    rw [List.take_of_length_le (by rw [T.out.1, ← HN.out]; exact Nat.le_refl _), List.take_of_length_le (by rw [← HN.out]; exact Nat.le_refl _)] at h
    exact h)
   have F3 := hide B.out
   clear O T Qb B
   go_wp2_with fail
   go_ret
   exact ⟨_, _, rfl, F1.out, F2.out, F3.out⟩
def VRet (w : World) (f : Int → Rat) (N M : Nat) (e : Ending) (w' : World) : Prop :=
 ∃ v' d', e = .returned v' ∧ Tg w' w.heap.size v' d' M ∧ Fm (tms d') ∧ (∀ c, 0 ≤ c → gsum (tms d') c = f c) ∧ d'.length ≤ N ∧ Below w.heap.size w w'
theorem make_v {w : World} {v : Value} {d : List Tx} {L : Nat} (hv : Tv w v d L) (hn : d.length ≤ 100000) (h1 : 1 ≤ L) (hL : L ≤ 1000000) :
  Calls Tryz.prog 54 #[v] w (VRet w (fun c => gsum (tms d) c) d.length (d.length * (L + 1) + 1)) := (make_t hv hn h1 hL).mono fun e w' ⟨v', d', h1, h2, h3, h4, h5, h6⟩ => ⟨v', d', h1, h2, h3, h4, h5, h6⟩
theorem VRet.later {w w1 : World} {f g : Int → Rat} {N N' M M' : Nat} {e : Ending} {w' : World} (h : VRet w1 f N M e w') (hb : Below w.heap.size w w1) (hf : ∀ c, 0 ≤ c → f c = g c) (hN : N ≤ N') (hM : M ≤ M') : VRet w g N' M' e w' := by
 obtain ⟨v', d', h1, h2, h3, h4, h5, h6⟩ := h
 exact ⟨v', d', h1, (h2.mono hb.size).more hM, h3, fun c hc => (h4 c hc).trans (hf c hc), Nat.le_trans h5 hN, hb.trans (h6.mono hb.size)⟩
set_option maxHeartbeats 4000000 in
theorem scale_t {w : World} {s : Bool} {A0 D0 : Option Addr} {n0 c0' m0 d0 : Nat} {r : Rat} {K : Nat} {v : Value} {d : List Tx} {L : Nat} (ha : Ra w (rv s (.slice A0 n0 c0') (.slice D0 m0 d0)) r K) (hv : Tv w v d L) (hn : d.length ≤ 100000) (h1 : 1 ≤ L) (hL : L ≤ 500000) (h2 : 1 ≤ K) (hK : K ≤ 500000) :
  Calls Tryz.prog 33 #[rv s (.slice A0 n0 c0') (.slice D0 m0 d0), v] w (VRet w (fun c => r * gsum (tms d) c) d.length (d.length * (K + L + 1) + 1)) := by
 have hvs : ∃ A n c, v = .slice A n c := by
  obtain ⟨A, c, rfl, _⟩ := hv.1
  exact ⟨_, _, _, rfl⟩
 obtain ⟨A, n, c, rfl⟩ := hvs
 have b0 := (Below.refl w.heap.size w).alloc (Nat.le_refl _) (rbox s (.slice A0 n0 c0') (.slice D0 m0 d0))
 have HT := hide (times_t (ha.step b0) (hv.step b0) hn h1 (by omega) h2 (by omega))
 have B0 := hide b0
 have DN := hide hn
 clear hv ha b0 hn
 go_enter Tryz.func33, Tryz.ntmps33
 go_wp2_with fail
 refine HT.out.mono ?_
 rintro e w1 ⟨v1, d1, rfl, t1, e1, b1⟩
 have hl : d1.length = d.length := by have := congrArg List.length e1; simpa [tms, gmul] using this
 have HM := hide (make_v t1.tv (by have := DN.out; omega) (by omega) (by omega))
 have B1 := hide (Below.step B0.out B0.out.size b1)
 have hg : ∀ c, 0 ≤ c → gsum (tms d1) c = r * gsum (tms d) c := fun c _ => by rw [e1, gsum_mul]
 have hvs : ∃ A n c, v1 = .slice A n c := by
  rcases t1.1.form with ⟨rfl, _⟩ | ⟨g, cap, cur, rfl, _⟩
  ·exact ⟨_, _, _, rfl⟩
  ·exact ⟨_, _, _, rfl⟩
 obtain ⟨A2, n2, c2, rfl⟩ := hvs
 rw [hl] at HM
 clear t1 e1 b1 hl HT B0
 go_wp2_with fail
 refine HM.out.mono ?_
 rintro e w2 h
 have F := hide (h.later B1.out hg (Nat.le_refl _) (Nat.le_refl _))
 obtain ⟨v', d', rfl, -⟩ := h
 clear HM
 go_wp2_with fail
 go_ret
 exact F.out
def xf (d : List Rx) (i : Int) : Rat := if 0 ≤ i then (match d[i.toNat]? with | some x => x.r | none => 0) else 0
theorem xf_out (d : List Rx) (i : Int) (h : i < 0 ∨ (d.length : Int) ≤ i) : xf d i = 0 := by
 unfold xf
 by_cases h0 : 0 ≤ i
 ·rw [if_pos h0, List.getElem?_eq_none (by omega)]
 ·rw [if_neg h0]
theorem xf_in {d : List Rx} {k : Nat} {x : Rx} (h : d[k]? = some x) : xf d (k : Int) = x.r := by
 unfold xf
 rw [if_pos (by omega), Int.toNat_natCast, h]
theorem ra_zero (W : World) (L : Nat) : Ra W (rv false (.slice none 0 0) (.slice none 0 0)) 0 L := by
 have h : Nw W (.slice none 0 0) 0 L := ⟨none, 0, 0, [], rfl, Rd.nil, Dg.nil, Nat.le_refl _, by simp [maxLen], rfl, Nat.zero_le _⟩
 exact ⟨false, _, _, 0, 0, rfl, h, h, by simp [zi]⟩
set_option maxHeartbeats 4000000 in
theorem at_r {w : World} {v : Value} {d : List Rx} {L : Nat} (i : Int) (hv : Fv w v d L) :
  Calls Tryz.prog 118 #[v, .int .i64 i] w fun e w' => ∃ x : Rx, e = .returned (rx x) ∧ x.r = xf d i ∧ Ra w' (rx x) x.r L ∧ Below w.heap.size w w' := by
 obtain ⟨A, c, e1, hc1, hc2, hc3⟩ := id hv.1
 obtain ⟨n, hlen⟩ : ∃ n, n = d.length := ⟨_, rfl⟩
 rw [← hlen] at e1 hc1
 subst e1
 have HV := hide hv
 have HN := hide hlen
 have b0 := (Below.refl w.heap.size w).alloc (Nat.le_refl _) rblk
 have B0 := hide b0
 have Z0 := hide (Rb.new w)
 have V0 := hide (hv.step b0)
 clear hv hc3 hlen b0
 by_cases h0 : i < 0
 ·have t0 : decide (i < 0) = true := decide_eq_true h0
  have hx := hide (xf_out d i (.inl h0))
  have b1 := (Below.refl _ _).alloc (Nat.le_refl _) rblk (w := w.alloc rblk)
  have Z1 := hide (Z0.out.step b1)
  have Y1 := hide (Rb.new (w.alloc rblk))
  have B1 := hide (Below.step B0.out B0.out.size b1)
  go_enter Tryz.func118, Tryz.ntmps118
  clear b1
  have k0 := Z1.out.c0
  have k1 := Z1.out.c1
  have k2 := Z1.out.c2
  have f0 := Z1.out.fz 0
  have f1 := Z1.out.fz 1
  have f2 := Z1.out.fz 2
  go_wp2_with fail
  exact bodyPost_ret (rret rfl _ _ _ #[.bool false, .slice none 0 0, .slice none 0 0] rfl rfl Z1.out) rfl ⟨⟨false, (none, 0, 0), (none, 0, 0), 0⟩, rfl, hx.out.symm, ra_zero _ L, B1.out⟩
 ·by_cases h2 : (n : Int) ≤ i
  ·have t0 : decide (i < 0) = false := decide_eq_false h0
   have t1 : decide ((n : Int) ≤ i) = true := decide_eq_true h2
   have hx := hide (xf_out d i (.inr (by rw [← HN.out]; exact h2)))
   have b1 := (Below.refl _ _).alloc (Nat.le_refl _) rblk (w := w.alloc rblk)
   have Z1 := hide (Z0.out.step b1)
   have B1 := hide (Below.step B0.out B0.out.size b1)
   go_enter Tryz.func118, Tryz.ntmps118
   clear b1
   have k0 := Z1.out.c0
   have k1 := Z1.out.c1
   have k2 := Z1.out.c2
   have f0 := Z1.out.fz 0
   have f1 := Z1.out.fz 1
   have f2 := Z1.out.fz 2
   go_wp2_with fail
   exact bodyPost_ret (rret rfl _ _ _ #[.bool false, .slice none 0 0, .slice none 0 0] rfl rfl Z1.out) rfl ⟨⟨false, (none, 0, 0), (none, 0, 0), 0⟩, rfl, hx.out.symm, ra_zero _ L, B1.out⟩
  ·obtain ⟨k, rfl⟩ : ∃ k : Nat, i = (k : Int) := ⟨i.toNat, by omega⟩
   have t0 : decide ((k : Int) < 0) = false := decide_eq_false h0
   have t1 : decide ((n : Int) ≤ (k : Int)) = false := decide_eq_false h2
   obtain ⟨x, hk⟩ := len_of (d := d) (k := k) (by rw [← HN.out]; omega)
   have hx := hide (xf_in hk)
   obtain ⟨b, off, rfl, hb, hc⟩ := V0.out.1.get hk
   have c0 := hc 0 _ rfl
   have c1 := hc 1 _ rfl
   have c2 := hc 2 _ rfl
   rw [Nat.add_zero] at c0
   have l0 : (0 : Int) ≤ (k : Int) := by omega
   have l1 : (k : Int) < (n : Int) := by omega
   have bx := (Below.refl w.heap.size w).alloc (Nat.le_refl _) (rbox x.s (sv x.u) (sv x.t))
   have RX := hide ((HV.out.2 x (List.mem_of_getElem? hk)).step bx)
   have BX := hide bx
   clear bx
   have k0 := Z0.out.c0
   have k1 := Z0.out.c1
   have k2 := Z0.out.c2
   have f0 := Z0.out.fz 0
   have f1 := Z0.out.fz 1
   have f2 := Z0.out.fz 2
   clear hc hb hk
   go_enter Tryz.func118, Tryz.ntmps118
   go_wp2_with fail
   exact bodyPost_ret (rret rfl _ _ _ #[.bool x.s, sv x.u, sv x.t] rfl rfl (Bq.new w x.s (sv x.u) (sv x.t))) rfl ⟨x, rfl, hx.out.symm, RX.out, BX.out⟩
theorem dt_take {d : List Tx} {k : Nat} {x : Tx} (h : d[k]? = some x) (f : Int → Rat) : dt (tms (d.take (k + 1))) f = dt (tms (d.take k)) f + x.x.r * f x.c := by
 rw [tms_snoc h, dt_snoc]; rfl
theorem rv_sl {α : Type} {W : World} {v : Value} {enc : α → List Value} {k : Nat} {d : List α} (h : Lr enc k W v d) : ∃ A n c, v = .slice A n c := by
 obtain ⟨A, c, rfl, _⟩ := h
 exact ⟨_, _, _, rfl⟩
set_option maxHeartbeats 16000000 in
theorem dot_g {w : World} {v u : Value} {d : List Tx} {f : List Rx} {L K : Nat} (hv : Tv w v d L) (hu : Fv w u f K) (hn : d.length ≤ 1000) (h1 : 1 ≤ L) (hL : L ≤ 10000000) (h2 : 1 ≤ K) (hK : K ≤ 10000000) :
  Calls Tryz.prog 92 #[v, u] w (RgRet w (dt (tms d) (xf f)) (d.length * (L + K + 1) + 1)) := by
 obtain ⟨A, c, e1, hc1, hc2, hc3⟩ := id hv.1
 obtain ⟨n, hlen⟩ : ∃ n, n = d.length := ⟨_, rfl⟩
 rw [← hlen] at e1 hc1 hn
 subst e1
 obtain ⟨A1, n1, c1, rfl⟩ := rv_sl hu.1
 have HV := hide hv
 have HU := hide hu
 have HN := hide hlen
 have HB := hide ((Below.refl w.heap.size w).alloc (Nat.le_refl _) rblk)
 have HZ := hide (Rb.new w)
 rw [← hlen]
 clear hv hu hc3 hlen
 go_enter Tryz.func92, Tryz.ntmps92
 go_wp2_with fail
 refine (whole_o (w.alloc rblk) 0 (by omega) (by omega)).mono ?_
 rintro e w1 ⟨x, rfl, hx, rg, b1⟩
 have Z1 := hide (HZ.out.step b1)
 have B1 := hide (Below.step HB.out HB.out.size b1)
 have bx := (Below.refl w1.heap.size w1).alloc (Nat.le_refl _) (rbox x.s (sv x.u) (sv x.t))
 have Z2 := hide (Z1.out.step bx)
 have B2 := hide (Below.step B1.out B1.out.size bx)
 have R2 := hide ((rg.mono (B' := w.heap.size) (by simp)).step bx)
 have Q2 := hide (Bq.new w1 x.s (sv x.u) (sv x.t))
 have X2 := hide hx
 have lt1 : w.heap.size < w1.heap.size := by have := b1.size; simp at this; omega
 clear bx rg b1 hx Z1 B1 HB HZ
 go_wp2_with fail
 generalize (w1.alloc (rbox x.s (sv x.u) (sv x.t))) = w2 at *
 generalize w1.heap.size = g5 at *
 have HE := hide (show x.r = dt (tms (d.take 0)) (xf f) by rw [X2.out]; simp [tms, dt])
 clear X2
 go_loopw [11] (fun iv wr => ∃ (k : Nat) (x : Rx), k ≤ n ∧ iv = .int .i64 (k : Int) ∧ Hid (Below w.heap.size w wr) ∧ Hid (Rb wr w.heap.size) ∧ Bq wr g5 x.s (sv x.u) (sv x.t) ∧ Hid (x.r = dt (tms (d.take k)) (xf f)) ∧ Hid (Rg wr w.heap.size x (k * (L + K + 1) + 1))) (fun iv _ => n - (intOf iv).toNat)
 case atStart => exact ⟨0, x, Nat.zero_le _, rfl, B2, Z2, Q2.out, HE, by simpa using R2⟩
 case round =>
  obtain ⟨k, y, hk, rfl, B, Z, Qb, E, R⟩ := hrel
  by_cases hlt : k < n
  ·obtain ⟨t, ht⟩ := len_of (d := d) (k := k) (by rw [← HN.out]; exact hlt)
   have ET := hide (dt_take ht (xf f))
   have HKK := hide (show k * (L + K + 1) + 1 ≤ 1000000000000 by have := Nat.mul_le_mul (show k ≤ 1000 by omega) (show L + K + 1 ≤ 20000001 by omega); omega)
   have HM := hide (show k * (L + K + 1) + 1 + (L + K) + 1 = (k + 1) * (L + K + 1) + 1 by rw [Nat.add_mul k 1]; omega)
   have HR := hide ((HV.out.2 t (List.mem_of_getElem? ht)).step B.out)
   have HF := hide (HU.out.step B.out)
   obtain ⟨b, off, rfl, hb, hc⟩ := (HV.out.1.step B.out).get ht
   have c0 := hc 0 _ rfl
   have c1 := hc 1 _ rfl
   have c2 := hc 2 _ rfl
   have c3 := hc 3 _ rfl
   rw [Nat.add_zero] at c0
   have l0 : (0 : Int) ≤ (k : Int) := by omega
   have l1 : (k : Int) < (n : Int) := by omega
   have b8 := (Below.refl wr.heap.size wr).alloc (Nat.le_refl _) (.cells #[.int .i64 t.c, .bool t.x.s, sv t.x.u, sv t.x.t] 59)
   have b8 := b8.drew
   replace HR := hide (HR.out.step b8)
   replace HF := hide (HF.out.step b8)
   replace B := hide (Below.step B.out B.out.size b8)
   replace Z := hide (Z.out.step b8)
   replace R := hide (R.out.step b8)
   have Q8 := hide (Qb.step b8)
   have E8 := hide (heap_alloc_new wr (.cells #[.int .i64 t.c, .bool t.x.s, sv t.x.u, sv t.x.t] 59))
   clear hc hb ht b8 Qb
   go_wp2_with fail
   generalize (wr.alloc (Obj.cells #[Value.int IntKind.i64 t.c, Value.bool t.x.s, sv t.x.u, sv t.x.t] 59)) = w5 at *
   generalize wr.heap.size = gb at *
   have E9 := hide (show w5.drew.heap[gb]? = _ from E8.out)
   obtain ⟨p0, p1, p2, p3, q0, q1, q2⟩ := two_boxes E9.out Q8.out
   clear c0 c1 c2 c3 E8
   go_region_with (first
     | (go_at_call 118; refine Calls.mono (at_r t.c HF.out) ?_; rintro e wa ⟨ya, rfl, ha, ra, bx⟩; have E7 := hide (keep_obj E9.out bx); have Q7 := hide (Q8.out.step bx); obtain ⟨p0, p1, p2, p3, q0, q1, q2⟩ := two_boxes E7.out Q7.out; have R7 := hide (R.out.step bx); have B7 := hide (Below.step B.out B.out.size bx); have Z7 := hide (Z.out.step bx); have T7 := hide (HR.out.step bx); have A7 := hide ra; have HA := hide ha; clear ha ra bx)
     | (go_at_call 34; refine Calls.mono (mul_g T7.out A7.out h1 h2 (by omega) (by omega)) ?_; rintro e wb ⟨yb, rfl, hb, rb, bx⟩; have E6 := hide (keep_obj E7.out bx); have Q6 := hide (Q7.out.step bx); obtain ⟨p0, p1, p2, p3, q0, q1, q2⟩ := two_boxes E6.out Q6.out; have R6 := hide (R7.out.step bx); have B6 := hide (Below.step B7.out B7.out.size bx); have Z6 := hide (Z7.out.step bx); have A6 := hide rb.ra; have HB := hide hb; clear hb rb bx)
     | (go_at_call 94; refine Calls.mono (add_g R6.out.ra A6.out (by omega) (by omega) HKK.out (by omega)) ?_; rintro e wx ⟨z, rfl, hz, rz, bx⟩; have Q5 := hide (Q6.out.step bx); obtain ⟨p0, p1, p2, f0, f1, f2⟩ := Q5.out.all; have B5 := hide (Below.step B6.out B6.out.size bx); have Z5 := hide (Z6.out.step bx); have RZ := hide ((rz.mono (B' := w.heap.size) B6.out.size).more (M := (k + 1) * (L + K + 1) + 1) (by have := HM.out; omega)); have HZ := hide hz; clear hz rz bx))
   all_goals
    have only := only_put3 wx g5 (.bool z.s) (sv z.u) (sv z.t)
    have bz2 := hide (below_put3 B5.out (Nat.le_of_lt lt1) (.bool z.s) (sv z.u) (sv z.t))
    have zz := hide (Z5.out.other (g := g5) (by omega) (.bool z.s) (sv z.u) (sv z.t))
    have qq := hide (Q5.out.put z.s (sv z.u) (sv z.t))
    have ee := hide (show z.r = dt (tms (d.take (k + 1))) (xf f) by rw [HZ.out, HB.out, HA.out, ET.out, E.out])
    have rr := hide (RZ.out.grown only Q5.out.nu)
    clear only p0 p1 p2 p3 q0 q1 q2 f0 f1 f2
    go_wp2_with fail
    exact ⟨⟨k + 1, z, by omega, by go_num, bz2, zz, qq.out, ee, rr⟩, by simp [intOf]; omega⟩
  ·obtain rfl : k = n := by omega
   obtain ⟨p0, p1, p2, f0, f1, f2⟩ := Qb.all
   have e9 := hide (show y.r = dt (tms d) (xf f) by rw [E.out, List.take_of_length_le (by rw [← HN.out]; exact Nat.le_refl _)])
   obtain ⟨⟨k0, k1, k2, q0, q1, q2⟩, fin⟩ := rg_put R.out Z.out (Nat.le_refl _) B.out
   rw [e9.out] at fin
   have F := hide fin
   clear fin E R Z B Qb HE R2 B2 Z2 Q2
   go_wp2_with fail
   exact bodyPost_ret (rret rfl _ _ _ #[.bool y.s, sv y.u, sv y.t] rfl rfl F.out.1) rfl F.out.2
theorem light_c {w : World} {A : Option Addr} {n c x L : Nat} (h : Nw w (.slice A n c) x L) (hn : n ≤ 1000000000000000000) :
  Calls Tryz.prog 53 #[.slice A n c] w fun e w' => ∃ b : Bool, e = .returned (.bool b) ∧ Below w.heap.size w w' := by
 by_cases h0 : n = 0
 ·subst h0
  have t0 : ((((0 : Nat) : Int)) == 0) = true := rfl
  go_enter Tryz.func53, Tryz.ntmps53
  go_wp2_with fail
  go_ret
  exact ⟨_, rfl, Below.refl _ _⟩
 ·have t0 : ((n : Int) == 0) = false := beq_eq_false_iff_ne.2 (by omega)
  by_cases h1 : n = 1
  ·subst h1
   have t1 : ((((1 : Nat) : Int)) == 1) = true := rfl
   obtain ⟨A', n', c', xs, e, hr, h2⟩ := h
   cases e
   obtain ⟨b, off, rfl, hb, hc⟩ := hr.at_ (show 0 < 1 by omega)
   rw [Nat.add_zero] at hc
   clear hr h2
   go_enter Tryz.func53, Tryz.ntmps53
   go_wp2_with fail
   go_ret
   exact ⟨_, rfl, Below.refl _ _⟩
  ·have t1 : ((n : Int) == 1) = false := beq_eq_false_iff_ne.2 (by omega)
   clear h
   go_enter Tryz.func53, Tryz.ntmps53
   go_wp2_with fail
   go_ret
   exact ⟨_, rfl, Below.refl _ _⟩
theorem Ra.words {W : World} {x : Rx} {r : Rat} {L : Nat} (h : Ra W (rx x) r L) : (∃ a, Nw W (sv x.u) a L) ∧ (∃ b, Nw W (sv x.t) b L) ∧ x.u.2.1 ≤ L ∧ x.t.2.1 ≤ L := by
 obtain ⟨s, u, t, a, b, e, h1, h2, h3⟩ := h
 injection e with e
 have e3 := congrArg Array.toList e
 simp at e3
 obtain ⟨e4, rfl, rfl⟩ := e3
 refine ⟨⟨a, h1⟩, ⟨b, h2⟩, ?_, ?_⟩
 ·obtain ⟨A, n, c, xs, e, g1, g2, g3, g4, g5, g6⟩ := h1
  injection e with e5 e6 e7
  omega
 ·obtain ⟨A, n, c, xs, e, g1, g2, g3, g4, g5, g6⟩ := h2
  injection e with e5 e6 e7
  omega
theorem Ra.tight {W : World} {x : Rx} {r : Rat} {L M : Nat} (h : Ra W (rx x) r L) (hu : x.u.2.1 ≤ M) (ht : x.t.2.1 ≤ M) : Ra W (rx x) r M := by
 obtain ⟨s, u, t, a, b, e, h1, h2, h3⟩ := h
 injection e with e
 have e3 := congrArg Array.toList e
 simp at e3
 obtain ⟨e4, rfl, rfl⟩ := e3
 subst e4
 refine ⟨_, _, _, a, b, rfl, ?_, ?_, h3⟩
 ·obtain ⟨A, n, c, xs, e, g1, g2, g3, g4, g5, g6⟩ := h1
  injection e with e5 e6 e7
  exact ⟨A, n, c, xs, by rw [← e5, ← e6, ← e7], g1, g2, g3, g4, g5, by omega⟩
 ·obtain ⟨A, n, c, xs, e, g1, g2, g3, g4, g5, g6⟩ := h2
  injection e with e5 e6 e7
  exact ⟨A, n, c, xs, by rw [← e5, ← e6, ← e7], g1, g2, g3, g4, g5, by omega⟩
theorem words_x {W : World} {x : Rx} {r : Rat} {L : Nat} (h : Ra W (rx x) r L) (hL : L ≤ 17592186044000) :
  Calls Tryz.prog 26 #[rx x] W fun e w' => e = .returned (.int .i64 ((x.u.2.1 + x.t.2.1 : Nat) : Int)) ∧ Below W.heap.size W w' :=
 rwords_any (by have := h.words.2.2.1; omega) (by have := h.words.2.2.2; omega)
set_option maxHeartbeats 4000000 in
theorem weight_c {w : World} {v : Value} {d : List Rx} {L : Nat} (hv : Fv w v d L) (hL : L ≤ 17592186044000) :
  Calls Tryz.prog 28 #[v] w fun e w' => ∃ z : Int, e = .returned (.int .i64 z) ∧ Below w.heap.size w w' := by
 obtain ⟨A, c, e1, hc1, hc2, hc3⟩ := id hv.1
 obtain ⟨n, hlen⟩ : ∃ n, n = d.length := ⟨_, rfl⟩
 rw [← hlen] at e1 hc1
 subst e1
 have HV := hide hv
 have HN := hide hlen
 unfold maxLen at hc2
 clear hv hc3 hlen
 go_enter Tryz.func28, Tryz.ntmps28
 go_wp2_with fail
 go_loopw [3, 4] (fun zv iv wr => ∃ (k : Nat) (z : Int), k ≤ n ∧ iv = .int .i64 (k : Int) ∧ zv = .int .i64 z ∧ Hid (Below w.heap.size w wr)) (fun _ iv _ => n - (intOf iv).toNat)
 case atStart => exact ⟨0, 0, Nat.zero_le _, rfl, rfl, hide (Below.refl _ _)⟩
 case round =>
  obtain ⟨k, z, hk, rfl, rfl, B⟩ := hrel
  by_cases hlt : k < n
  ·obtain ⟨x, hx⟩ := len_of (d := d) (k := k) (by rw [← HN.out]; exact hlt)
   have RX := hide ((HV.out.2 x (List.mem_of_getElem? hx)).step B.out)
   have F := hide (HV.out.step B.out)
   obtain ⟨b, off, rfl, hb, hc⟩ := F.out.1.get hx
   have HX := hide hx
   obtain ⟨⟨a, wa⟩, ⟨b', wb⟩, wl1, wl2⟩ := RX.out.words
   have c0 := hc 0 _ rfl
   have c1 := hc 1 _ rfl
   have c2 := hc 2 _ rfl
   rw [Nat.add_zero] at c0
   have WA := hide (light_c wa (by omega))
   have WB := hide wb
   have l0 : (0 : Int) ≤ (k : Int) := by omega
   have l1 : (k : Int) < (n : Int) := by omega
   clear hc hb hx wa wb
   go_wp2_with fail
   refine WA.out.mono ?_
   rintro e w1 ⟨p, rfl, bx⟩
   have B1 := hide (Below.step B.out B.out.size bx)
   obtain ⟨b2, off2, e2, hb2, hc2'⟩ := (F.out.1.step bx).get HX.out
   injection e2 with e2
   injection e2 with e3 e4
   subst e3 e4
   have c0 := hc2' 0 _ rfl
   have c1 := hc2' 1 _ rfl
   have c2 := hc2' 2 _ rfl
   rw [Nat.add_zero] at c0
   have WB1 := hide (light_c (WB.out.step bx) (by omega))
   have RX1 := hide (RX.out.step bx)
   have F1 := hide (F.out.step bx)
   clear bx hb2 hc2' B F RX WA WB
   cases p with
   | false =>
    go_wp2_with fail
    refine (words_x RX1.out (by omega)).mono ?_
    rintro e w2 ⟨rfl, bx⟩
    have B2 := hide (Below.step B1.out B1.out.size bx)
    clear bx
    go_wp2_with fail
    exact ⟨⟨k + 1, _, by omega, by go_num, rfl, B2⟩, by simp [intOf]; omega⟩
   | true =>
    go_wp2_with fail
    refine WB1.out.mono ?_
    rintro e w2 ⟨q, rfl, bx⟩
    have B2 := hide (Below.step B1.out B1.out.size bx)
    obtain ⟨b2, off2, e2, hb2, hc2'⟩ := (F1.out.1.step bx).get HX.out
    injection e2 with e2
    injection e2 with e3 e4
    subst e3 e4
    have c0 := hc2' 0 _ rfl
    have c1 := hc2' 1 _ rfl
    have c2 := hc2' 2 _ rfl
    rw [Nat.add_zero] at c0
    have RX2 := hide (RX1.out.step bx)
    clear bx hb2 hc2' F1 RX1 WB1 B1
    cases q with
    | false =>
     go_wp2_with fail
     refine (words_x RX2.out (by omega)).mono ?_
     rintro e w2 ⟨rfl, bx⟩
     have B3 := hide (Below.step B2.out B2.out.size bx)
     clear bx
     go_wp2_with fail
     exact ⟨⟨k + 1, _, by omega, by go_num, rfl, B3⟩, by simp [intOf]; omega⟩
    | true =>
     go_wp2_with fail
     exact ⟨⟨k + 1, z, by omega, by go_num, rfl, B2⟩, by simp [intOf]; omega⟩
  ·obtain rfl : k = n := by omega
   go_wp2_with fail
   go_ret
   exact ⟨z, rfl, B.out⟩
theorem Fv.of {W : World} {B : Nat} {v : Value} {d : List Rx} {L : Nat} (h : Ow 27 er 3 W B v d) (hd : ∀ x ∈ d, Ra W (rx x) x.r L) : Fv W v d L := ⟨h.rl er_len, hd⟩
set_option maxHeartbeats 4000000 in
theorem weights_c {w : World} {v : Value} {d : List Tx} {L : Nat} (hv : Tv w v d L) (hL : L ≤ 17592186044000) (hn : d.length ≤ 100000000) :
  Calls Tryz.prog 27 #[v] w fun e w' => ∃ z : Int, e = .returned (.int .i64 z) ∧ Below w.heap.size w w' := by
 obtain ⟨A, c, e1, hc1, hc2, hc3⟩ := id hv.1
 obtain ⟨n, hlen⟩ : ∃ n, n = d.length := ⟨_, rfl⟩
 rw [← hlen] at e1 hc1 hn
 subst e1
 have HV := hide hv
 have HN := hide hlen
 obtain ⟨i0, hi, hz0, hz1, hz2⟩ := info_parts info_rt
 clear hv hc3 hlen
 go_enter Tryz.func27, Tryz.ntmps27
 go_wp2_with fail
 go_loopw [3, 4] (fun ov iv wr => ∃ (k : Nat), k ≤ n ∧ iv = .int .i64 (k : Int) ∧ Hid (Below w.heap.size w wr) ∧ Hid (Ow 27 er 3 wr w.heap.size ov ((d.take k).map (·.x)))) (fun _ iv _ => n - (intOf iv).toNat)
 case atStart => exact ⟨0, Nat.zero_le _, rfl, hide (Below.refl _ _), hide (Ow.nil _ _ _ _ _)⟩
 case round =>
  obtain ⟨k, hk, rfl, B, O⟩ := hrel
  by_cases hlt : k < n
  ·obtain ⟨x, hx⟩ := len_of (d := d) (k := k) (by rw [← HN.out]; exact hlt)
   obtain ⟨b, off, rfl, hb, hc⟩ := (HV.out.1.step B.out).get hx
   have c0 := hc 0 _ rfl
   have c1 := hc 1 _ rfl
   have c2 := hc 2 _ rfl
   have c3 := hc 3 _ rfl
   rw [Nat.add_zero] at c0
   have l0 : (0 : Int) ≤ (k : Int) := by omega
   have l1 : (k : Int) < (n : Int) := by omega
   have e9 := hide (show (d.take k).map (·.x) ++ [x.x] = (d.take (k + 1)).map (·.x) by
    rw [List.take_succ_eq_append_getElem (List.getElem?_eq_some_iff.1 hx).1, List.map_append, (List.getElem?_eq_some_iff.1 hx).2]; rfl)
   have HLL := hide (show ((d.take k).map (·.x)).length + 1 ≤ 1000000000000 by simp; omega)
   have FW := hide (fun u v' w' (hu : Ow 27 er 3 wr w.heap.size u ((d.take k).map (·.x))) (ho : Ow 27 er 3 w' w.heap.size v' ((d.take k).map (·.x) ++ [x.x])) (hg : wr.grownBy w' u.ownBlock) => And.intro (show Ow 27 er 3 w' w.heap.size v' ((d.take (k + 1)).map (·.x)) by rw [← e9.out]; exact ho) (below_own B.out hu hg B.out.size))
   clear hc hb hx
   go_wp2_with (at_builtin; go_must (refine wpList_pushE rfl (.tmp 11) (.tmp 17) 30 rfl Tryz.underlying30 hi hz0 hz1 hz2 rfl (by omega) er_len er_one wr w.heap.size _ ((d.take k).map (·.x)) x.x _ rfl O.out rfl rfl HLL.out (by decide) B.out.size ?_); intro v' w' ho hg; have F2 := hide (FW.out _ v' w' O.out ho hg.1); clear ho hg)
   exact ⟨⟨k + 1, by omega, by go_num, hide F2.out.2, hide F2.out.1⟩, by simp [intOf]; omega⟩
  ·obtain rfl : k = n := by omega
   have hm : (d.take k).map (·.x) = d.map (·.x) := by rw [List.take_of_length_le (by rw [← HN.out]; exact Nat.le_refl _)]
   have FV := hide (show Fv wr u3 (d.map (·.x)) L from Fv.of (B := w.heap.size) (by rw [← hm]; exact O.out) (fun x hx => by
    obtain ⟨y, hy, rfl⟩ := List.mem_map.1 hx
    exact (HV.out.2 y hy).step B.out))
   obtain ⟨A2, n2, c2, rfl⟩ : ∃ A n c, u3 = .slice A n c := by
    rcases O.out.form with ⟨rfl, _⟩ | ⟨g, cap, cur, rfl, _⟩
    ·exact ⟨_, _, _, rfl⟩
    ·exact ⟨_, _, _, rfl⟩
   clear O
   go_wp2_with fail
   refine (weight_c FV.out hL).mono ?_
   rintro e w2 ⟨z, rfl, bx⟩
   have B2 := hide (Below.step B.out B.out.size bx)
   clear bx
   go_wp2_with fail
   go_ret
   exact ⟨z, rfl, B2.out⟩
set_option maxHeartbeats 4000000 in
theorem great_c {w : World} {v : Value} {d : List Tx} {L : Nat} (hv : Tv w v d L) (hL : L ≤ 17592186044000) :
  Calls Tryz.prog 25 #[v] w fun e w' => Below w.heap.size w w' ∧ ∃ b : Bool, e = .returned (.bool b) ∧ (b = false → d.length ≤ 30 ∧ ∀ x ∈ d, x.x.u.2.1 + x.x.t.2.1 ≤ 6) := by
 obtain ⟨A, c, e1, hc1, hc2, hc3⟩ := id hv.1
 obtain ⟨n, hlen⟩ : ∃ n, n = d.length := ⟨_, rfl⟩
 rw [← hlen] at e1 hc1 ⊢
 subst e1
 have HV := hide hv
 have HN := hide hlen
 unfold maxLen at hc2
 clear hv hc3 hlen
 go_enter Tryz.func25, Tryz.ntmps25
 go_wp2_with fail
 go_loopw [3] (fun iv wr => ∃ (k : Nat), k ≤ n ∧ iv = .int .i64 (k : Int) ∧ Hid (Below w.heap.size w wr) ∧ Hid (∀ j x, j < k → d[j]? = some x → x.x.u.2.1 + x.x.t.2.1 ≤ 6)) (fun iv _ => n - (intOf iv).toNat)
 case atStart => exact ⟨0, Nat.zero_le _, rfl, hide (Below.refl _ _), hide (fun j x h => by omega)⟩
 case round =>
  obtain ⟨k, hk, rfl, B, P⟩ := hrel
  by_cases hlt : k < n
  ·obtain ⟨x, hx⟩ := len_of (d := d) (k := k) (by rw [← HN.out]; exact hlt)
   have RX := hide ((HV.out.2 x (List.mem_of_getElem? hx)).step B.out)
   obtain ⟨b, off, rfl, hb, hc⟩ := (HV.out.1.step B.out).get hx
   have c0 := hc 0 _ rfl
   have c1 := hc 1 _ rfl
   have c2 := hc 2 _ rfl
   have c3 := hc 3 _ rfl
   rw [Nat.add_zero] at c0
   have HX := hide hx
   have l0 : (0 : Int) ≤ (k : Int) := by omega
   have l1 : (k : Int) < (n : Int) := by omega
   clear hc hb hx
   go_wp2_with fail
   refine (words_x RX.out hL).mono ?_
   rintro e w2 ⟨rfl, bx⟩
   have B2 := hide (Below.step B.out B.out.size bx)
   obtain ⟨m, hm⟩ : ∃ m, m = x.x.u.2.1 + x.x.t.2.1 := ⟨_, rfl⟩
   rw [← hm]
   have HM := hide hm
   clear bx hm
   by_cases h6 : 6 < m
   ·have t1 : decide ((6 : Int) < (m : Int)) = true := decide_eq_true (by omega)
    go_wp2_with fail
    go_ret
    exact ⟨B2.out, true, rfl, fun h => by cases h⟩
   ·have t1 : decide ((6 : Int) < (m : Int)) = false := decide_eq_false (by omega)
    go_wp2_with fail
    exact ⟨⟨k + 1, by omega, by go_num, B2, hide (fun j y hj hy => by
     by_cases h : j = k
     ·subst h
      rw [HX.out] at hy
      injection hy with hy
      subst hy
      have := HM.out
      omega
     ·exact P.out j y (by omega) hy)⟩, by simp [intOf]; omega⟩
  ·obtain rfl : k = n := by omega
   have HP := hide (show ∀ x ∈ d, x.x.u.2.1 + x.x.t.2.1 ≤ 6 from fun x hx => by
    obtain ⟨j, hj, e⟩ := List.getElem_of_mem hx
    exact P.out j x (by rw [HN.out]; exact hj) (by rw [List.getElem?_eq_getElem hj, e]))
   by_cases h30 : 30 < k
   ·have t1 : decide ((30 : Int) < (k : Int)) = true := decide_eq_true (by omega)
    go_wp2_with fail
    go_ret
    exact ⟨B.out, true, rfl, fun h => by cases h⟩
   ·have t1 : decide ((30 : Int) < (k : Int)) = false := decide_eq_false (by omega)
    have WW := hide (weights_c (HV.out.step B.out) hL (by rw [← HN.out]; omega))
    go_wp2_with fail
    refine WW.out.mono ?_
    rintro e w2 ⟨z, rfl, bx⟩
    have B2 := hide (Below.step B.out B.out.size bx)
    clear bx
    go_wp2_with fail
    go_ret
    exact ⟨B2.out, _, rfl, fun _ => ⟨by omega, HP.out⟩⟩
theorem Tv.tight {W : World} {v : Value} {d : List Tx} {L : Nat} (h : Tv W v d L) (hs : ∀ x ∈ d, x.x.u.2.1 + x.x.t.2.1 ≤ 6) : Tv W v d 6 :=
 ⟨h.1, fun x hx => (h.2 x hx).tight (by have := hs x hx; omega) (by have := hs x hx; omega)⟩
def Tc (W : World) (v : Value) (d : List Tx) (L : Nat) : Prop := Lr et 4 W v d ∧ ∀ x ∈ d, Rc W (rx x.x) x.x.r L
theorem Tc.step {W W' : World} {v : Value} {d : List Tx} {L : Nat} (h : Tc W v d L) (hb : Below W.heap.size W W') : Tc W' v d L := ⟨h.1.step hb, fun x hx => (h.2 x hx).step hb⟩
theorem Tg.tc {W : World} {B : Nat} {v : Value} {d : List Tx} {L : Nat} (h : Tg W B v d L) : Tc W v d L := ⟨h.1.rl et_len, fun x hx => (h.2 x hx).1⟩
theorem Tc.tv {W : World} {v : Value} {d : List Tx} {L : Nat} (h : Tc W v d L) : Tv W v d L := ⟨h.1, fun x hx => (h.2 x hx).ra⟩
theorem tms_at {d f : List Tx} (h : tms d = tms f) {k : Nat} {x y : Tx} (hx : d[k]? = some x) (hy : f[k]? = some y) : x.c = y.c ∧ x.x.r = y.x.r := by
 have e : (tms d)[k]? = (tms f)[k]? := by rw [h]
 unfold tms at e
 rw [List.getElem?_map, List.getElem?_map, hx, hy] at e
 simp [tm] at e
 exact e
set_option maxHeartbeats 4000000 in
theorem rqsmall_any (w : World) (z : Int) (h1 : -9223372036854775808 ≤ z) (h2 : z ≤ 9223372036854775807) :
  Calls Tryz.prog 50 #[.int .i64 z] w (RfRet w (z : Rat) 6) := by
 have b1 := (Below.refl w.heap.size w).alloc (Nat.le_refl _) fqblk
 have HB := hide b1
 have HZ := hide (Fb.new w)
 clear b1
 go_enter Tryz.func50, Tryz.ntmps50
 go_wp2_with fail
 refine (qsmall_any (w.alloc fqblk) z h1 h2).mono ?_
 rintro e w1 ⟨v, rfl, z1, bx⟩
 obtain ⟨s, x, A, n, c, rfl, hu, hz, -⟩ := z1.parts
 have B1 := hide (Below.step HB.out HB.out.size bx)
 have Z1 := hide (HZ.out.step bx)
 have b2 := (Below.refl w1.heap.size w1).alloc (Nat.le_refl _) (.cells #[.int .i64 1] 3)
 have B2 := hide (Below.step B1.out B1.out.size b2)
 have Z2 := hide (Z1.out.step b2)
 have LC := hide (lowest_any (s := s) (hu.step b2) (ic_one w1 (L := 6) (by omega)) (by omega) (by omega) (by omega))
 have hq : mkRat (zi s x) 1 = (z : Rat) := by rw [hz, Rat.mkRat_one]
 rw [hq] at LC
 clear bx hu hz b2 hq B1 Z1 HB HZ
 go_wp2_with fail
 refine LC.out.mono ?_
 rintro e w2 ⟨v, rfl, c1, b1⟩
 obtain ⟨sg, A1, n1, c1', D1, m1, d1, rfl, c2⟩ := c1.parts
 obtain ⟨k0, k1, k2, f0, f1, f2, fin⟩ := rf_put (w0 := w) c2 (Z2.out.step b1) (by omega) (Below.step B2.out B2.out.size b1)
 have F := hide fin
 clear fin LC b1 c1 c2 Z2 B2
 go_wp2_with fail
 exact bodyPost_ret (rfret rfl _ _ _ #[.bool sg, .slice A1 n1 c1', .slice D1 m1 d1] rfl rfl F.out.1) rfl F.out.2
theorem alloc_below (W : World) (o : Obj) : Below W.heap.size W (W.alloc o) := (Below.refl _ _).alloc (Nat.le_refl _) _
end Go.Proofs.YtofmhfbbedalbaaGreat
