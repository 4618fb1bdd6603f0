
/-
  Vectors: Get.
-/
import Derived.Test.YtieicmcbdhaipaaGreatTv

namespace Go.Proofs.YtieicmcbdhaipaaGreat
open Go.RowKit Go.Proofs.YtieicmcbdhaipaaGreat.Num
set_option linter.unusedVariables false
set_option linter.unusedSimpArgs false
set_option maxRecDepth 100000

theorem RoRet.rg {w : World} {r : Rat} {L : Nat} {e : Ending} {w' : World} (h : RoRet w r L e w') (h1 : 1 ≤ L) : RgRet w r L e w' := by
  obtain ⟨s, u, t, he, hc, o⟩ := id h
  exact RgRet.of h (hc.ra.sz h1)

set_option maxHeartbeats 2000000 in
theorem whole_o (w : World) (z : Int) (h1 : -9223372036854775808 ≤ z) (h2 : z ≤ 9223372036854775807) :
    Calls Tryz.prog 58 #[.int .i64 z] w (RgRet w (z : Rat) 1) := by
  have HB := hide ((Below.refl w.heap.size w).alloc (Nat.le_refl _) rblk)
  have HZ := hide (Rb.new w)
  go_enter Tryz.func58, Tryz.ntmps58
  go_wp2_with fail
  refine (zof_any (w.alloc rblk) z h1 h2).mono ?_
  rintro e w1 ⟨v, rfl, z1, b1⟩
  have B1 := hide (Below.step HB.out HB.out.size b1)
  have RC := hide (ofint_own (Zi.za z1) (Nat.le_refl 1) (by omega))
  have Z1 := hide (HZ.out.step b1)
  clear z1 b1 HB HZ
  go_wp2_with fail
  refine RC.out.mono ?_
  rintro e w2 ⟨sg, u, t, rfl, c2, o1, o2, dj, b2⟩
  obtain ⟨A1, n1, c1', rfl⟩ := o1.slice
  obtain ⟨D1, m1, d1, rfl⟩ := o2.slice
  obtain ⟨k0, k1, k2, f0, f1, f2, fin⟩ := rr_put_o (w0 := w) c2 (o1.mono B1.out.size) (o2.mono B1.out.size) dj (Z1.out.step b2) (by omega) (Below.step B1.out B1.out.size b2)
  have F := hide fin
  clear fin RC c2 b2 Z1 B1 o1 o2 dj
  go_wp2_with fail
  exact bodyPost_ret (rret rfl _ _ _ #[.bool sg, .slice A1 n1 c1', .slice D1 m1 d1] rfl rfl F.out.1) rfl (F.out.2.rg (Nat.le_refl 1))

/-- A variable that holds a fraction. -/
def Bq (W : World) (g : Nat) (s : Bool) (u t : Value) : Prop := W.heap[g]? = some (rbox s u t)
theorem Bq.new (w : World) (s : Bool) (u t : Value) : Bq (w.alloc (rbox s u t)) w.heap.size s u t := heap_alloc_new w _
theorem Bq.lt {W : World} {g : Nat} {s : Bool} {u t : Value} (h : Bq W g s u t) : g < W.heap.size := by unfold Bq at h; exact (Array.getElem?_eq_some_iff.1 h).1
theorem Bq.step {W W' : World} {g : Nat} {s : Bool} {u t : Value} (h : Bq W g s u t) (hb : Below W.heap.size W W') : Bq W' g s u t := (hb.block g h.lt).trans h
theorem Bq.all {W : World} {g : Nat} {s : Bool} {u t : Value} (h : Bq W g s u t) : W.cell? ⟨g, 0, none⟩ = some (.bool s) ∧ W.cell? ⟨g, 1, none⟩ = some u ∧ W.cell? ⟨g, 2, none⟩ = some t ∧ W.frozen? ⟨g, 0, none⟩ = false ∧ W.frozen? ⟨g, 1, none⟩ = false ∧ W.frozen? ⟨g, 2, none⟩ = false :=
  ⟨cell_of_row W g 0 _ _ _ h, cell_of_row W g 1 _ _ _ h, cell_of_row W g 2 _ _ _ h, frozen_of_row W g 0 _ _ h, frozen_of_row W g 1 _ _ h, frozen_of_row W g 2 _ _ h⟩
theorem Bq.put {W : World} {g : Nat} {s : Bool} {u t : Value} (h : Bq W g s u t) (s' : Bool) (u' t' : Value) : Bq (((W.setCell ⟨g, 0, none⟩ (.bool s')).setCell ⟨g, 1, none⟩ u').setCell ⟨g, 2, none⟩ t') g s' u' t' :=
  heap_setCell_same _ g 2 _ _ t' (heap_setCell_same _ g 1 _ _ u' (heap_setCell_same W g 0 _ _ (.bool s') h))
theorem only_put3 (W : World) (g : Nat) (a b c : Value) : W.grownBy (((W.setCell ⟨g, 0, none⟩ a).setCell ⟨g, 1, none⟩ b).setCell ⟨g, 2, none⟩ c) (some g) :=
  only_set (p := ⟨g, 2, none⟩) (only_set (p := ⟨g, 1, none⟩) (only_set (p := ⟨g, 0, none⟩) (only_refl W (some g)) rfl a) rfl b) rfl c
theorem below_put3 {B : Nat} {w W : World} {g : Nat} (h : Below B w W) (hg : B ≤ g) (a b c : Value) : Below B w (((W.setCell ⟨g, 0, none⟩ a).setCell ⟨g, 1, none⟩ b).setCell ⟨g, 2, none⟩ c) :=
  ((h.setCell hg a).setCell hg b).setCell hg c
theorem nu_of {W : World} {g : Nat} {cs : Array Value} {T : TypeId} {fz : Nat × Nat} (h : W.heap[g]? = some (.cells cs T fz)) (hn : cs.toList.all (fun v => match v with | .int .u64 _ => false | _ => true) = true) : Nu W g :=
  ⟨cs, T, fz, h, fun j z hj => by
    have hm := List.all_eq_true.1 hn _ (Array.mem_toList_iff.2 (Array.mem_of_getElem? hj))
    simp at hm⟩
theorem Bq.nu {W : World} {g : Nat} {s : Bool} {A D : Option Addr} {n c m d : Nat} (h : Bq W g s (.slice A n c) (.slice D m d)) : Nu W g := nu_of h rfl
theorem Rb.nu {W : World} {g : Nat} (h : Rb W g) : Nu W g := nu_of h rfl
theorem Rb.put {W : World} {g : Nat} (h : Rb W g) (s' : Bool) (u' t' : Value) : Bq (((W.setCell ⟨g, 0, none⟩ (.bool s')).setCell ⟨g, 1, none⟩ u').setCell ⟨g, 2, none⟩ t') g s' u' t' := h.set _ _ _
theorem Rb.other {W : World} {g h : Nat} (z : Rb W h) (hne : h ≠ g) (a b c : Value) : Rb (((W.setCell ⟨g, 0, none⟩ a).setCell ⟨g, 1, none⟩ b).setCell ⟨g, 2, none⟩ c) h :=
  ((Below.heap_setCell _ _ c h hne).trans ((Below.heap_setCell _ _ b h hne).trans (Below.heap_setCell _ _ a h hne))).trans z
/-- The result's variable is filled. -/
theorem rg_put {w0 w : World} {x : Rx} {L g : Nat} (h : Rg w w0.heap.size x L) (hz : Rb w g) (hg0 : w0.heap.size ≤ g) (hb : Below w0.heap.size w0 w) :
    (w.cell? ⟨g, 0, none⟩ = some (.bool false) ∧ w.cell? ⟨g, 1, none⟩ = some (.slice none 0 0) ∧ w.cell? ⟨g, 2, none⟩ = some (.slice none 0 0) ∧
      w.frozen? ⟨g, 0, none⟩ = false ∧ w.frozen? ⟨g, 1, none⟩ = false ∧ w.frozen? ⟨g, 2, none⟩ = false) ∧
      (((w.setCell ⟨g, 0, none⟩ (.bool x.s)).setCell ⟨g, 1, none⟩ (sv x.u)).setCell ⟨g, 2, none⟩ (sv x.t)).heap[g]? = some (.cells #[.bool x.s, sv x.u, sv x.t] 26 (0, 0)) ∧
        RgRet w0 x.r L (.returned (rx x)) (((w.setCell ⟨g, 0, none⟩ (.bool x.s)).setCell ⟨g, 1, none⟩ (sv x.u)).setCell ⟨g, 2, none⟩ (sv x.t)) :=
  ⟨⟨hz.c0, hz.c1, hz.c2, hz.fz 0, hz.fz 1, hz.fz 2⟩, hz.set _ _ _, x, rfl, rfl, h.grown (only_put3 w g _ _ _) hz.nu, below_put3 hb hg0 _ _ _⟩

theorem gt_take {d : List Tx} {k : Nat} {x : Tx} (h : d[k]? = some x) (col : Int) : gt (tms (d.take (k + 1))) col = gt (tms (d.take k)) col + (if x.c = col ∧ 0 ≤ col then x.x.r else 0) := by
  rw [tms_snoc h]
  unfold gt
  by_cases h0 : 0 ≤ col
  · rw [if_pos h0, if_pos h0, gsum_snoc]
    by_cases h1 : x.c = col
    · rw [if_pos (And.intro h1 h0), if_pos (show (tm x).1 = col from h1)]; rfl
    · rw [if_neg (fun e : x.c = col ∧ 0 ≤ col => h1 e.1), if_neg (show ¬ (tm x).1 = col from h1)]
  · rw [if_neg h0, if_neg h0, if_neg (fun e => h0 e.2), Rat.add_zero]
theorem len_of {α : Type} {d : List α} {k : Nat} (h : k < d.length) : ∃ x, d[k]? = some x := ⟨d[k], List.getElem?_eq_getElem h⟩

end Go.Proofs.YtieicmcbdhaipaaGreat
