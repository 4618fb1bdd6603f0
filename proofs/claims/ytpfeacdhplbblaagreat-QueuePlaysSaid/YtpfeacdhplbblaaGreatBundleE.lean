/-
  Shared texts, one behind the other: ZrefA, ZrefB, Zbox, ZrefC, ZrefD, Zgen.
-/
import Derived.Test.YtpfeacdhplbblaaGreatBundleD
import Derived.Test.YtpfeacdhplbblaaGreatBundleC

namespace Go.Proofs.YtpfeacdhplbblaaGreat
open Go.RowKit Go.Proofs.YtpfeacdhplbblaaGreat.Num
set_option linter.unusedVariables false
set_option maxRecDepth 100000
theorem qret {fn : Func} {p : Tmp} (h : fn.results = #[.cell p 65]) (tmps : Array Value) (w : World) (g : Nat) (cs : Array Value) (hs : cs.size = 2)
    (hp : tmps.getD p undef = .pointer (some ⟨g, 0, none⟩)) (hg : w.heap[g]? = some (.cells cs 65 (0, 0))) : (results fn tmps).run Tryz.prog w = .ok (.agg cs) w :=
  results_cell_row h tmps w g 65 cs (0, 0) _ hp hg Tryz.underlying65 rfl (by rw [hs]; kernel_rfl)
abbrev qblk : Obj := .cells #[.bool false, .slice none 0 0] 65
abbrev qbox (s : Bool) (u : Value) : Obj := .cells #[.bool s, u] 65
def Qb (w : World) (g : Nat) : Prop := w.heap[g]? = some qblk
theorem Qb.new (w : World) : Qb (w.alloc qblk) w.heap.size := heap_alloc_new _ _
theorem Qb.step {w w' : World} {g : Nat} (h : Qb w g) (hg : g < w.heap.size) (hb : Below w.heap.size w w') : Qb w' g := (hb.block g hg).trans h
theorem Qb.c0 {w : World} {g : Nat} (h : Qb w g) : w.cell? ⟨g, 0, none⟩ = some (.bool false) := cell_of_row w g 0 _ _ _ h
theorem Qb.c1 {w : World} {g : Nat} (h : Qb w g) : w.cell? ⟨g, 1, none⟩ = some (.slice none 0 0) := cell_of_row w g 1 _ _ _ h
theorem Qb.fz {w : World} {g : Nat} (h : Qb w g) (j : Nat) : w.frozen? ⟨g, j, none⟩ = false := frozen_of_row w g j _ _ h
theorem Qb.set {w : World} {g : Nat} (h : Qb w g) (a b : Value) : ((w.setCell ⟨g, 0, none⟩ a).setCell ⟨g, 1, none⟩ b).heap[g]? = some (.cells #[a, b] 65 (0, 0)) :=
  heap_setCell_same _ g 1 _ _ b (heap_setCell_same w g 0 _ _ a h)
theorem Rd.qset {k : IntKind} {w : World} {B n g : Nat} {A : Option Addr} {xs : List Nat} {t : TypeId} (h : Rd k w B A n xs) (hz : w.heap[g]? = some (.cells #[.bool false, .slice none 0 0] t (0, 0))) (a b : Value) : Rd k ((w.setCell ⟨g, 0, none⟩ a).setCell ⟨g, 1, none⟩ b) B A n xs := by
  refine ⟨h.1, fun hn => ?_⟩
  obtain ⟨bb, off, e, hb, hc⟩ := h.2 hn
  refine ⟨bb, off, e, hb, fun j hj => ?_⟩
  have hne : bb ≠ g := by
    rintro rfl
    have h1 := hc 0 hn
    rw [Nat.add_zero, cell_of_row w bb off _ _ _ hz] at h1
    match off, h1 with
    | 0, h1 => simp at h1
    | 1, h1 => simp at h1
    | (k + 2), h1 => simp at h1
  rw [World.cell?_setCell_other _ _ _ _ (by intro h2; apply hne; injection h2 with h3; exact h3.symm), World.cell?_setCell_other _ _ _ _ (by intro h2; apply hne; injection h2 with h3; exact h3.symm)]
  exact hc j hj
theorem Ic.qset {w : World} {v : Value} {x L g : Nat} {t : TypeId} (h : Ic w v x L) (hz : w.heap[g]? = some (.cells #[.bool false, .slice none 0 0] t (0, 0))) (a b : Value) : Ic ((w.setCell ⟨g, 0, none⟩ a).setCell ⟨g, 1, none⟩ b) v x L := by
  obtain ⟨A, c, e, h1, h2⟩ := h
  exact ⟨A, c, e, by rw [size_zset]; exact h1.qset hz a b, h2⟩
theorem Iw.slice {w : World} {u : Value} {x L : Nat} (h : Iw w u x L) : ∃ A n c, u = .slice A n c := by
  obtain ⟨A, n, c, xs, e, _⟩ := h
  exact ⟨A, n, c, e⟩
def Qi (w : World) (v : Value) (z : Int) (L : Nat) : Prop := ∃ u, v = zv (decide (z < 0)) u ∧ Ic w u z.natAbs L
def QRet (w : World) (z : Int) (L : Nat) (e : Ending) (w' : World) : Prop := ∃ v, e = .returned v ∧ Qi w' v z L ∧ Below w.heap.size w w'
theorem Qi.step {w w' : World} {v : Value} {z : Int} {L : Nat} (h : Qi w v z L) (hb : Below w.heap.size w w') : Qi w' v z L := by
  obtain ⟨u, e, hc⟩ := h
  exact ⟨u, e, hc.step hb⟩
theorem Ic.len0 {w : World} {A : Option Addr} {n c x L : Nat} (h : Ic w (.slice A n c) x L) : (n = 0 ↔ x = 0) ∧ n ≤ L := by
  obtain ⟨A', c', e, h1, h2⟩ := h
  cases e
  refine ⟨⟨fun h => (cn_eq_nil B_two).1 (List.eq_nil_of_length_eq_zero h), fun h => by subst h; rw [cn_zero]; rfl⟩, h2⟩
theorem q_fit {w0 w : World} {s : Bool} {A : Option Addr} {n c x L g : Nat} {z : Int} (h : Ic w (.slice A n c) x L) (hz : Qb w g) (hg0 : w0.heap.size ≤ g) (hb : Below w0.heap.size w0 w) (hs : s = decide (z < 0)) (hx : z.natAbs = x) :
    w.cell? ⟨g, 0, none⟩ = some (.bool false) ∧ w.cell? ⟨g, 1, none⟩ = some (.slice none 0 0) ∧ w.frozen? ⟨g, 0, none⟩ = false ∧ w.frozen? ⟨g, 1, none⟩ = false ∧
      (((w.setCell ⟨g, 0, none⟩ (.bool s)).setCell ⟨g, 1, none⟩ (.slice A n c)).heap[g]? = some (.cells #[.bool s, .slice A n c] 65 (0, 0)) ∧
        QRet w0 z L (.returned (zv s (.slice A n c))) ((w.setCell ⟨g, 0, none⟩ (.bool s)).setCell ⟨g, 1, none⟩ (.slice A n c))) := by
  subst hs
  subst hx
  exact ⟨hz.c0, hz.c1, hz.fz 0, hz.fz 1, hz.set _ _, _, rfl, ⟨_, rfl, h.qset hz _ _⟩, (hb.setCell hg0 _).setCell hg0 _⟩
set_option maxHeartbeats 1000000 in
theorem form_any {w : World} {s : Bool} {u : Value} {x L : Nat} {z : Int} (h : Iw w u x L) (hL : L ≤ 800000000000) (hz : zi s x = z) :
    Calls Tryz.prog 68 #[.bool s, u] w (QRet w z L) := by
  subst hz
  obtain ⟨A0, n0, c0, rfl⟩ := h.slice
  have a0 : Below w.heap.size w (w.alloc qblk) := (Below.refl _ _).alloc (Nat.le_refl _) _
  have H := hide (h.step a0)
  have HA := hide a0
  clear h a0
  cases s
  · go_enter Tryz.func68, Tryz.ntmps68
    go_wp2_with fail
    refine (itrim H.out (by omega)).mono ?_
    rintro e w1 ⟨r, rfl, -, c1, b1⟩
    obtain ⟨A, n, c, rfl⟩ := c1.iw.slice
    obtain ⟨k0, k1, f0, f1, fin⟩ := q_fit (w0 := w) (s := false) (z := zi false x) c1 ((Qb.new w).step (by simp) b1) (Nat.le_refl _) (HA.out.trans (b1.mono HA.out.size)) (by rw [← zi_neg]; rfl) (zi_abs _ _)
    have F := hide fin
    clear c1 b1 H HA fin
    go_wp2_with fail
    exact bodyPost_ret (qret rfl _ _ w.heap.size #[.bool false, .slice A n c] rfl rfl F.out.1) rfl F.out.2
  · by_cases hx : x = 0
    · go_enter Tryz.func68, Tryz.ntmps68
      go_wp2_with fail
      refine (itrim H.out (by omega)).mono ?_
      rintro e w1 ⟨r, rfl, -, c1, b1⟩
      obtain ⟨A, n, c, rfl⟩ := c1.iw.slice
      obtain ⟨k0, k1, f0, f1, fin⟩ := q_fit (w0 := w) (s := false) (z := zi true x) c1 ((Qb.new w).step (by simp) b1) (Nat.le_refl _) (HA.out.trans (b1.mono HA.out.size)) (by rw [← zi_neg, hx]; rfl) (zi_abs _ _)
      obtain rfl : n = 0 := c1.len0.1.2 hx
      have F := hide fin
      clear c1 b1 H HA fin hx
      go_wp2_with fail
      exact bodyPost_ret (qret rfl _ _ w.heap.size #[.bool false, .slice A 0 c] rfl rfl F.out.1) rfl F.out.2
    · go_enter Tryz.func68, Tryz.ntmps68
      go_wp2_with fail
      refine (itrim H.out (by omega)).mono ?_
      rintro e w1 ⟨r, rfl, -, c1, b1⟩
      obtain ⟨A, n, c, rfl⟩ := c1.iw.slice
      obtain ⟨k0, k1, f0, f1, fin⟩ := q_fit (w0 := w) (s := true) (z := zi true x) c1 ((Qb.new w).step (by simp) b1) (Nat.le_refl _) (HA.out.trans (b1.mono HA.out.size)) (by rw [← zi_neg, decide_eq_true hx]; rfl) (zi_abs _ _)
      have t1 : decide ((0 : Int) < (n : Int)) = true := decide_eq_true (by have := (not_congr c1.len0.1).2 hx; omega)
      have t2 : decide (0 < n) = true := decide_eq_true (by have := (not_congr c1.len0.1).2 hx; omega)
      have F := hide fin
      clear c1 b1 H HA fin hx
      go_wp2_with fail
      exact bodyPost_ret (qret rfl _ _ w.heap.size #[.bool true, .slice A n c] rfl rfl F.out.1) rfl F.out.2
theorem q_ret {w0 w : World} {v : Value} {z : Int} {L g : Nat} (h : Qi w v z L) (hz : Qb w g) (hg0 : w0.heap.size ≤ g) (hb : Below w0.heap.size w0 w) :
    ∃ sg A n c, v = zv sg (.slice A n c) ∧ w.cell? ⟨g, 0, none⟩ = some (.bool false) ∧ w.cell? ⟨g, 1, none⟩ = some (.slice none 0 0) ∧ w.frozen? ⟨g, 0, none⟩ = false ∧ w.frozen? ⟨g, 1, none⟩ = false ∧
      (((w.setCell ⟨g, 0, none⟩ (.bool sg)).setCell ⟨g, 1, none⟩ (.slice A n c)).heap[g]? = some (.cells #[.bool sg, .slice A n c] 65 (0, 0)) ∧
        QRet w0 z L (.returned (zv sg (.slice A n c))) ((w.setCell ⟨g, 0, none⟩ (.bool sg)).setCell ⟨g, 1, none⟩ (.slice A n c))) := by
  obtain ⟨u, rfl, hc⟩ := h
  obtain ⟨A, n, c, rfl⟩ := hc.iw.slice
  exact ⟨_, A, n, c, rfl, q_fit hc hz hg0 hb rfl rfl⟩
set_option maxHeartbeats 2000000 in
theorem qsmall_any (w : World) (z : Int) (h1 : -9223372036854775808 ≤ z) (h2 : z ≤ 9223372036854775807) :
    Calls Tryz.prog 55 #[.int .i64 z] w (QRet w z 6) := by
  have a0 : Below w.heap.size w (w.alloc qblk) := (Below.refl _ _).alloc (Nat.le_refl _) _
  have HA := hide a0
  have HB := hide (Qb.new w)
  by_cases h0 : 0 ≤ z
  · obtain ⟨m, hm⟩ : ∃ m : Nat, (m : Int) = z := ⟨z.toNat, by omega⟩
    subst hm
    have t1 : decide ((0 : Int) ≤ (m : Int)) = true := decide_eq_true h0
    have S := hide (ismall (L := 5) (w.alloc qblk) (x := m) (by omega) (by omega))
    clear a0 h0 h1 h2
    go_enter Tryz.func55, Tryz.ntmps55
    go_wp2_with fail
    refine S.out.mono ?_
    rintro e w1 ⟨r, rfl, -, c1, b1⟩
    have H := hide (c1.more (show 5 ≤ 6 by omega))
    have HB1 := hide (HB.out.step (by simp) b1)
    have HA1 := hide (HA.out.trans (b1.mono HA.out.size))
    have HL := hide (show w.heap.size < w1.heap.size by have := b1.size; simp at this; omega)
    clear c1 b1 S HB HA
    go_wp2_with fail
    refine (form_any (s := false) (z := (m : Int)) H.out.iw (by omega) rfl).mono ?_
    rintro e w2 ⟨v, rfl, qv, b2⟩
    obtain ⟨sg, A, n, c, rfl, k0, k1, f0, f1, fin⟩ := q_ret (w0 := w) qv (HB1.out.step HL.out b2) (Nat.le_refl _) (HA1.out.trans (b2.mono HA1.out.size))
    have F := hide fin
    clear H HB1 HA1 HL qv b2 fin
    go_wp2_with fail
    exact bodyPost_ret (qret rfl _ _ w.heap.size #[.bool sg, .slice A n c] rfl rfl F.out.1) rfl F.out.2
  · have t1 : decide ((0 : Int) ≤ z) = false := decide_eq_false h0
    obtain ⟨k, hk⟩ : ∃ k : Nat, (k : Int) = -(z + 1) := ⟨(-(z + 1)).toNat, by omega⟩
    obtain ⟨y, hy⟩ : ∃ y : Int, z + 1 = y := ⟨_, rfl⟩
    have e1 : IntKind.i64.wrap (z + 1) = y := by rw [IntWalk.i64_in _ (by omega), hy]
    have e2 : IntKind.i64.wrap (-y) = (k : Int) := by rw [IntWalk.i64_in _ (by omega)]; omega
    have S := hide (ismall (L := 5) (w.alloc qblk) (x := k) (by omega) (by omega))
    have hz : Hid (zi true (k + 1) = z) := hide (by unfold zi; simp; omega)
    clear a0 h0 h1 h2 hk hy
    go_enter Tryz.func55, Tryz.ntmps55
    go_wp2_with fail
    refine S.out.mono ?_
    rintro e w1 ⟨r, rfl, -, c1, b1⟩
    have ha : Below w1.heap.size w1 (w1.alloc (.cells #[.int .i64 1] 3)) := (Below.refl _ _).alloc (Nat.le_refl _) _
    have AD := hide (iadd (K := 5) (c1.iw.step ha) (iw_one w1 3 (x := 1) (by omega)) (by omega) (by omega) (by omega))
    have bb := b1.trans (ha.mono b1.size)
    have HB1 := hide (HB.out.step (by simp) bb)
    have HA1 := hide (HA.out.trans (bb.mono HA.out.size))
    have HL := hide (show w.heap.size < (w1.alloc (.cells #[.int .i64 1] 3)).heap.size by have := bb.size; simp at this ⊢; omega)
    clear c1 b1 S HB HA ha bb
    go_wp2_with fail
    refine AD.out.mono ?_
    rintro e w2 ⟨r2, rfl, -, c2, b2⟩
    have H := hide c2
    have HB2 := hide (HB1.out.step HL.out b2)
    have HA2 := hide (HA1.out.trans (b2.mono HA1.out.size))
    have HL2 := hide (Nat.lt_of_lt_of_le HL.out b2.size)
    clear c2 b2 AD HB1 HA1 HL
    go_wp2_with fail
    refine (form_any (s := true) H.out.iw (by omega) hz.out).mono ?_
    rintro e w3 ⟨v, rfl, qv, b3⟩
    obtain ⟨sg, A, n, c, rfl, k0, k1, f0, f1, fin⟩ := q_ret (w0 := w) qv (HB2.out.step HL2.out b3) (Nat.le_refl _) (HA2.out.trans (b3.mono HA2.out.size))
    have F := hide fin
    clear H HB2 HA2 HL2 qv b3 fin
    go_wp2_with fail
    exact bodyPost_ret (qret rfl _ _ w.heap.size #[.bool sg, .slice A n c] rfl rfl F.out.1) rfl F.out.2
theorem to_fit {w0 w : World} {r : Value} {z : Int} {s : Bool} {L g : Nat} (h : Cw w r z.natAbs L) (hz : Zb w g) (hg0 : w0.heap.size ≤ g) (hb : Below w0.heap.size w0 w) (hs : decide (z < 0) = s) :
    ∃ A n c, r = .slice A n c ∧ w.cell? ⟨g, 0, none⟩ = some (.bool false) ∧ w.cell? ⟨g, 1, none⟩ = some (.slice none 0 0) ∧ w.frozen? ⟨g, 0, none⟩ = false ∧ w.frozen? ⟨g, 1, none⟩ = false ∧
      (((w.setCell ⟨g, 0, none⟩ (.bool s)).setCell ⟨g, 1, none⟩ (.slice A n c)).heap[g]? = some (.cells #[.bool s, .slice A n c] 34 (0, 0)) ∧
        ZRet w0 z L (.returned (zv s (.slice A n c))) ((w.setCell ⟨g, 0, none⟩ (.bool s)).setCell ⟨g, 1, none⟩ (.slice A n c))) := by
  subst hs
  obtain ⟨A, c, rfl, -⟩ := id h
  exact ⟨A, _, c, rfl, hz.c0, hz.c1, hz.fz 0, hz.fz 1, hz.set _ _, _, rfl, ⟨_, rfl, h.zset hz _ _⟩, (hb.setCell hg0 _).setCell hg0 _⟩
set_option maxHeartbeats 2000000 in
theorem qto_any {w : World} {v : Value} {z : Int} {L : Nat} (h : Qi w v z L) (hL : L ≤ 100000000000) :
    Calls Tryz.prog 43 #[v] w (ZRet w z L) := by
  obtain ⟨u, rfl, hc⟩ := h
  obtain ⟨A, n, c, rfl⟩ := hc.iw.slice
  obtain ⟨s, hs⟩ : ∃ s, decide (z < 0) = s := ⟨_, rfl⟩
  rw [hs]
  have a1 : Below w.heap.size w (w.alloc (qbox s (.slice A n c))) := (Below.refl _ _).alloc (Nat.le_refl _) _
  have a2 : Below w.heap.size w ((w.alloc (qbox s (.slice A n c))).alloc zblk) := a1.alloc (by simp) _
  have p0 : ((w.alloc (qbox s (.slice A n c))).alloc zblk).cell? ⟨w.heap.size, 0, none⟩ = some (.bool s) := by go_simp
  have p1 : ((w.alloc (qbox s (.slice A n c))).alloc zblk).cell? ⟨w.heap.size, 1, none⟩ = some (.slice A n c) := by go_simp
  have hz : Zb ((w.alloc (qbox s (.slice A n c))).alloc zblk) (w.heap.size + 1) := by have h := Zb.new (w.alloc (qbox s (.slice A n c))); simpa using h
  have HS := hide (show w.heap.size + 1 < ((w.alloc (qbox s (.slice A n c))).alloc zblk).heap.size by simp)
  have H := hide (hc.step a2).iw
  have HA := hide a2
  have HZ := hide hz
  clear hc a1 a2 hz
  go_enter Tryz.func43, Tryz.ntmps43
  go_wp2_with fail
  generalize hW0 : (w.alloc (qbox s (.slice A n c))).alloc zblk = W0 at *
  have p0d : W0.drew.cell? ⟨w.heap.size, 0, none⟩ = some (.bool s) := p0
  have p1d : W0.drew.cell? ⟨w.heap.size, 1, none⟩ = some (.slice A n c) := p1
  have C := hide (to_l (w := W0.drew) (x := z.natAbs) H.out hL)
  go_region_held3 (fun W => W.cell? ⟨w.heap.size, 0, none⟩ = some (.bool s) ∧ W.cell? ⟨w.heap.size, 1, none⟩ = some (.slice A n c))
    (first
      | with_reducible exact ⟨p0d, p1d⟩
      | with_reducible exact ⟨cell_keep p0d b1, cell_keep p1d b1⟩
      | with_reducible exact ⟨cell_zset (cell_keep p0d b1) (by simp <;> omega) _ _, cell_zset (cell_keep p1d b1) (by simp <;> omega) _ _⟩)
    (first | (go_at_call 44; (with_reducible refine C.out.mono ?_); rintro e w1 ⟨r, rfl, -, c1, b1⟩; obtain ⟨A1, n1, c2, rfl, k0, k1, f0, f1, fin⟩ := to_fit (w0 := w) c1 (HZ.out.step HS.out (below_of_drew b1)) (by omega) (HA.out.trans ((below_of_drew b1).mono HA.out.size)) hs))
  all_goals
    have F := hide fin
    clear fin
    go_wp2_with fail
    exact bodyPost_ret (zret rfl _ _ _ #[.bool s, .slice A1 n1 c2] rfl rfl F.out.1) rfl F.out.2
set_option maxHeartbeats 2000000 in
theorem qof_any {w : World} {v : Value} {z : Int} {L : Nat} (h : Za w v z L) (hL : L ≤ 1000000000) :
    Calls Tryz.prog 47 #[v] w (QRet w z (5 * L)) := by
  obtain ⟨s, u, x, rfl, hu, hx⟩ := h
  obtain ⟨A, n, c, rfl⟩ := hu.slice
  have a1 : Below w.heap.size w (w.alloc (zbox s (.slice A n c))) := (Below.refl _ _).alloc (Nat.le_refl _) _
  have a2 : Below w.heap.size w ((w.alloc (zbox s (.slice A n c))).alloc qblk) := a1.alloc (by simp) _
  have p0 : ((w.alloc (zbox s (.slice A n c))).alloc qblk).cell? ⟨w.heap.size, 0, none⟩ = some (.bool s) := by go_simp
  have p1 : ((w.alloc (zbox s (.slice A n c))).alloc qblk).cell? ⟨w.heap.size, 1, none⟩ = some (.slice A n c) := by go_simp
  have hz : Qb ((w.alloc (zbox s (.slice A n c))).alloc qblk) (w.heap.size + 1) := by have h := Qb.new (w.alloc (zbox s (.slice A n c))); simpa using h
  have HS := hide (show w.heap.size + 1 < ((w.alloc (zbox s (.slice A n c))).alloc qblk).heap.size by simp)
  have H := hide (hu.step a2)
  have HA := hide a2
  have HZ := hide hz
  have HX := hide hx
  clear hu a1 a2 hz hx
  go_enter Tryz.func47, Tryz.ntmps47
  go_wp2_with fail
  generalize hW0 : (w.alloc (zbox s (.slice A n c))).alloc qblk = W0 at *
  have p0d : W0.drew.cell? ⟨w.heap.size, 0, none⟩ = some (.bool s) := p0
  have p1d : W0.drew.cell? ⟨w.heap.size, 1, none⟩ = some (.slice A n c) := p1
  have C : Hid (Calls Tryz.prog 45 #[.slice A n c] W0.drew (INew W0.drew x (5 * L))) := hide (by
    obtain ⟨xs, hxs, hl⟩ := H.out.lw
    subst hxs
    exact of_l (w := W0.drew) hl hL)
  go_region_held3 (fun W => W.cell? ⟨w.heap.size, 0, none⟩ = some (.bool s) ∧ W.cell? ⟨w.heap.size, 1, none⟩ = some (.slice A n c))
    (first
      | with_reducible exact ⟨p0d, p1d⟩
      | with_reducible exact ⟨cell_keep p0d b1, cell_keep p1d b1⟩
      | with_reducible exact ⟨cell_keep (cell_keep p0d b1) b2, cell_keep (cell_keep p1d b1) b2⟩
      | with_reducible exact ⟨cell_zset (cell_keep (cell_keep p0d b1) b2) (by simp <;> omega) _ _, cell_zset (cell_keep (cell_keep p1d b1) b2) (by simp <;> omega) _ _⟩)
    (first
      | (go_at_call 45; (with_reducible refine C.out.mono ?_); rintro e w1 ⟨r, rfl, -, c1, b1⟩; have FM := hide (form_any (s := s) c1.iw (by omega) HX.out))
      | (go_at_call 68; (with_reducible refine FM.out.mono ?_); rintro e w2 ⟨v, rfl, qv, b2⟩; obtain ⟨sg, A1, n1, c2, rfl, k0, k1, f0, f1, fin⟩ := q_ret (w0 := w) qv ((HZ.out.step HS.out (below_of_drew b1)).step (Nat.lt_of_lt_of_le HS.out b1.size) b2) (by omega) (HA.out.trans (((below_of_drew b1).trans (b2.mono b1.size)).mono HA.out.size))))
  all_goals
    have F := hide fin
    clear fin
    go_wp2_with fail
    exact bodyPost_ret (qret rfl _ _ _ #[.bool sg, .slice A1 n1 c2] rfl rfl F.out.1) rfl F.out.2
set_option maxHeartbeats 1000000 in
theorem qsign_any {w : World} {v : Value} {z : Int} {L : Nat} (h : Qi w v z L) :
    Calls Tryz.prog 84 #[v] w fun e w' => e = .returned (.int .i64 (zsg z)) ∧ Below w.heap.size w w' := by
  obtain ⟨u, rfl, hc⟩ := h
  obtain ⟨A, n, c, rfl⟩ := hc.iw.slice
  have a1 : Below w.heap.size w (w.alloc (qbox (decide (z < 0)) (.slice A n c))) := (Below.refl _ _).alloc (Nat.le_refl _) _
  have HA := hide a1
  have hn := hc.len0.1
  clear a1 hc
  rcases Int.lt_trichotomy z 0 with hz | hz | hz
  · have e : zsg z = -1 := by unfold zsg; rw [if_neg (by omega), if_pos hz]
    have t0 : decide (z < 0) = true := decide_eq_true hz
    have hn0 : n ≠ 0 := fun h => by have := hn.1 h; omega
    have t1 : ((n : Int) == 0) = false := beq_eq_false_iff_ne.2 (by omega)
    rw [t0] at HA
    rw [t0, e]
    clear hn hz e t0
    go_enter Tryz.func84, Tryz.ntmps84
    go_wp2_with fail
    go_ret
    exact ⟨rfl, HA.out⟩
  · subst hz
    obtain rfl : n = 0 := hn.2 rfl
    clear hn
    go_enter Tryz.func84, Tryz.ntmps84
    go_wp2_with fail
    go_ret
    exact ⟨rfl, HA.out⟩
  · have e : zsg z = 1 := by unfold zsg; rw [if_neg (by omega), if_neg (by omega)]
    have t0 : decide (z < 0) = false := decide_eq_false (by omega)
    have hn0 : n ≠ 0 := fun h => by have := hn.1 h; omega
    have t1 : ((n : Int) == 0) = false := beq_eq_false_iff_ne.2 (by omega)
    rw [t0] at HA
    rw [t0, e]
    clear hn hz e t0
    go_enter Tryz.func84, Tryz.ntmps84
    go_wp2_with fail
    go_ret
    exact ⟨rfl, HA.out⟩
theorem Lw.qset {w : World} {v : Value} {xs : List Nat} {L g : Nat} {t : TypeId} (h : Lw w v xs L) (hz : w.heap[g]? = some (.cells #[.bool false, .slice none 0 0] t (0, 0))) (a b : Value) : Lw ((w.setCell ⟨g, 0, none⟩ a).setCell ⟨g, 1, none⟩ b) v xs L := by
  obtain ⟨A, n, c, e, h1, h2⟩ := h
  exact ⟨A, n, c, e, by rw [size_zset]; exact h1.qset hz a b, h2⟩
theorem copy_fit {w0 w : World} {r : Value} {s : Bool} {xs : List Nat} {L g : Nat} (h : Lw w r xs L) (hz : Zb w g) (hg0 : w0.heap.size ≤ g) (hb : Below w0.heap.size w0 w) :
    ∃ A n c, r = .slice A n c ∧ w.cell? ⟨g, 0, none⟩ = some (.bool false) ∧ w.cell? ⟨g, 1, none⟩ = some (.slice none 0 0) ∧ w.frozen? ⟨g, 0, none⟩ = false ∧ w.frozen? ⟨g, 1, none⟩ = false ∧
      (((w.setCell ⟨g, 0, none⟩ (.bool s)).setCell ⟨g, 1, none⟩ (.slice A n c)).heap[g]? = some (.cells #[.bool s, .slice A n c] 34 (0, 0)) ∧
        ∃ r', Ending.returned (zv s (.slice A n c)) = .returned (zv s r') ∧ Lw ((w.setCell ⟨g, 0, none⟩ (.bool s)).setCell ⟨g, 1, none⟩ (.slice A n c)) r' xs L ∧ Below w0.heap.size w0 ((w.setCell ⟨g, 0, none⟩ (.bool s)).setCell ⟨g, 1, none⟩ (.slice A n c))) := by
  obtain ⟨A, n, c, rfl⟩ := h.nw.slice
  exact ⟨A, n, c, rfl, hz.c0, hz.c1, hz.fz 0, hz.fz 1, hz.set _ _, _, rfl, h.qset hz _ _, (hb.setCell hg0 _).setCell hg0 _⟩
set_option maxHeartbeats 1000000 in
theorem zsame_l {w : World} {s : Bool} {u v : Value} {xs : List Nat} {L M : Nat} (hu : Lw w u xs L) (hv : Lw w v xs M) :
    Calls Tryz.prog 36 #[zv s u, zv s v] w fun e w' => e = .returned (.bool true) ∧ Below w.heap.size w w' := by
  obtain ⟨A, n, c, rfl⟩ := hu.nw.slice
  obtain ⟨D, m, d, rfl⟩ := hv.nw.slice
  have a1 : Below w.heap.size w (w.alloc (zbox s (.slice A n c))) := (Below.refl _ _).alloc (Nat.le_refl _) _
  have a2 : Below w.heap.size w ((w.alloc (zbox s (.slice A n c))).alloc (zbox s (.slice D m d))) := a1.alloc (by simp) _
  have S := hide (same_l (hu.step a2) (hv.step a2))
  have HA := hide a2
  have t1 : (s == s) = true := by simp
  clear hu hv a1 a2
  go_enter Tryz.func36, Tryz.ntmps36
  go_wp2_with (go_at_call 37; refine S.out.mono ?_; rintro e w1 ⟨rfl, b1⟩)
  go_ret
  exact ⟨rfl, HA.out.trans (b1.mono HA.out.size)⟩
theorem cw_lw {w : World} {v : Value} {x L : Nat} (h : Cw w v x L) : Lw w v (cn Q x) L := by
  obtain ⟨A, c, rfl, h1, h2, h3, h4⟩ := h
  exact ⟨A, _, c, rfl, h1, dg_cn Q_two x, by omega, by omega, by omega⟩
theorem zsame_i {w : World} {u v : Value} {z : Int} {L M : Nat} (hu : Zi w u z L) (hv : Zi w v z M) :
    Calls Tryz.prog 36 #[u, v] w fun e w' => e = .returned (.bool true) ∧ Below w.heap.size w w' := by
  obtain ⟨u, rfl, hc⟩ := hu
  obtain ⟨v, rfl, hd⟩ := hv
  exact zsame_l (xs := cn Q z.natAbs) (L := L) (M := M) (cw_lw hc) (cw_lw hd)
def Bx (w : World) (g : Nat) (s : Bool) (A : Option Addr) (n c : Nat) : Prop := w.cell? ⟨g, 0, none⟩ = some (.bool s) ∧ w.cell? ⟨g, 1, none⟩ = some (.slice A n c)
theorem box2 (w : World) (s t : Bool) (A D : Option Addr) (n c m d : Nat) :
    Below w.heap.size w ((w.alloc (zbox s (.slice A n c))).alloc (zbox t (.slice D m d))) ∧ Bx ((w.alloc (zbox s (.slice A n c))).alloc (zbox t (.slice D m d))) w.heap.size s A n c ∧ Bx ((w.alloc (zbox s (.slice A n c))).alloc (zbox t (.slice D m d))) (w.heap.size + 1) t D m d := by
  refine ⟨((Below.refl _ _).alloc (Nat.le_refl _) _).alloc (by simp) _, ⟨?_, ?_⟩, ⟨?_, ?_⟩⟩ <;> go_simp
theorem Qi.parts {w : World} {v : Value} {z : Int} {L : Nat} (h : Qi w v z L) : ∃ s x A n c, v = zv s (.slice A n c) ∧ Ic w (.slice A n c) x L ∧ zi s x = z ∧ (x = 0 → s = false) := by
  obtain ⟨u, rfl, hc⟩ := h
  obtain ⟨A, n, c, rfl⟩ := hc.iw.slice
  refine ⟨_, z.natAbs, A, n, c, rfl, hc, ?_, fun h => decide_eq_false (by omega)⟩
  unfold zi
  by_cases h : z < 0
  · rw [decide_eq_true h]; simp only [if_true]; omega
  · rw [decide_eq_false h]; simp only [Bool.false_eq_true, if_false]; omega
theorem q_world (w : World) (s t : Bool) (A D : Option Addr) (n c m d : Nat) :
    let W := ((w.alloc (qbox s (.slice A n c))).alloc (qbox t (.slice D m d))).alloc qblk
    Below w.heap.size w W ∧ Qb W (w.heap.size + 1 + 1) ∧ W.heap.size = w.heap.size + 3 ∧ W.cell? ⟨w.heap.size, 0, none⟩ = some (.bool s) ∧ W.cell? ⟨w.heap.size, 1, none⟩ = some (.slice A n c) ∧
      W.cell? ⟨w.heap.size + 1, 0, none⟩ = some (.bool t) ∧ W.cell? ⟨w.heap.size + 1, 1, none⟩ = some (.slice D m d) := by
  intro W
  have a1 : Below w.heap.size w (w.alloc (qbox s (.slice A n c))) := (Below.refl _ _).alloc (Nat.le_refl _) _
  have a2 : Below w.heap.size w ((w.alloc (qbox s (.slice A n c))).alloc (qbox t (.slice D m d))) := a1.alloc (by simp) _
  have a3 : Below w.heap.size w W := a2.alloc (by simp; omega) _
  have z3 : Qb W (w.heap.size + 1 + 1) := by have h := Qb.new ((w.alloc (qbox s (.slice A n c))).alloc (qbox t (.slice D m d))); simpa using h
  refine ⟨a3, z3, by simp [W], ?_, ?_, ?_, ?_⟩ <;> (simp only [W]; go_simp)
set_option maxHeartbeats 4000000 in
theorem qmul_any {w : World} {u v : Value} {a b : Int} {L M : Nat} (hu : Qi w u a L) (hv : Qi w v b M) (hL : L ≤ 400000000000) (hM : M ≤ 400000000000) :
    Calls Tryz.prog 86 #[u, v] w (QRet w (a * b) (L + M)) := by
  obtain ⟨s, x, A, n, c, rfl, hu, hx, sx⟩ := hu.parts
  obtain ⟨t, y, D, m, d, rfl, hv, hy, sy⟩ := hv.parts
  obtain ⟨a3, z3, hsz, p0, p1, q0, q1⟩ := q_world w s t A D n c m d
  have HU := hide (hu.step a3)
  have HV := hide (hv.step a3)
  have HA := hide a3
  have HZ := hide z3
  have HS := hide (show w.heap.size + 1 + 1 < (((w.alloc (qbox s (.slice A n c))).alloc (qbox t (.slice D m d))).alloc qblk).heap.size by rw [hsz]; omega)
  clear hu hv a3 z3 hsz
  have HX : Hid (zi (!(s == t)) (x * y) = a * b) := hide (by rw [← hx, ← hy]; unfold zi; cases s <;> cases t <;> simp [Int.neg_mul, Int.mul_neg])
  clear hx hy sx sy
  go_enter Tryz.func86, Tryz.ntmps86
  go_wp2_with fail
  generalize hW0 : ((w.alloc (qbox s (.slice A n c))).alloc (qbox t (.slice D m d))).alloc qblk = W0 at *
  have p0d : W0.drew.cell? ⟨w.heap.size, 0, none⟩ = some (.bool s) := p0
  have p1d : W0.drew.cell? ⟨w.heap.size, 1, none⟩ = some (.slice A n c) := p1
  have q0d : W0.drew.cell? ⟨w.heap.size + 1, 0, none⟩ = some (.bool t) := q0
  have q1d : W0.drew.cell? ⟨w.heap.size + 1, 1, none⟩ = some (.slice D m d) := q1
  have C := hide (imul (w := W0.drew) HU.out.iw HV.out.iw hL hM)
  go_region_held3 (fun W => W.cell? ⟨w.heap.size, 0, none⟩ = some (.bool s) ∧ W.cell? ⟨w.heap.size, 1, none⟩ = some (.slice A n c) ∧ W.cell? ⟨w.heap.size + 1, 0, none⟩ = some (.bool t) ∧ W.cell? ⟨w.heap.size + 1, 1, none⟩ = some (.slice D m d))
    (first
      | with_reducible exact ⟨p0d, p1d, q0d, q1d⟩
      | with_reducible exact ⟨cell_keep p0d b1, cell_keep p1d b1, cell_keep q0d b1, cell_keep q1d b1⟩
      | with_reducible exact ⟨cell_keep (cell_keep p0d b1) b2, cell_keep (cell_keep p1d b1) b2, cell_keep (cell_keep q0d b1) b2, cell_keep (cell_keep q1d b1) b2⟩
      | with_reducible exact ⟨cell_zset (cell_keep (cell_keep p0d b1) b2) (by simp <;> omega) _ _, cell_zset (cell_keep (cell_keep p1d b1) b2) (by simp <;> omega) _ _, cell_zset (cell_keep (cell_keep q0d b1) b2) (by simp <;> omega) _ _, cell_zset (cell_keep (cell_keep q1d b1) b2) (by simp <;> omega) _ _⟩)
    (first
      | (go_at_call 66; (with_reducible refine C.out.mono ?_); rintro e w1 ⟨r, rfl, -, c1, b1⟩; have FM := hide (form_any (s := !(s == t)) c1.iw (by omega) HX.out))
      | (go_at_call 68; (with_reducible refine FM.out.mono ?_); rintro e w2 ⟨v, rfl, qv, b2⟩; obtain ⟨sg, A1, n1, c2, rfl, k0, k1, f0, f1, fin⟩ := q_ret (w0 := w) qv ((HZ.out.step HS.out (below_of_drew b1)).step (Nat.lt_of_lt_of_le HS.out b1.size) b2) (by omega) (HA.out.trans (((below_of_drew b1).trans (b2.mono b1.size)).mono HA.out.size))))
  all_goals
    have F := hide fin
    clear fin
    go_wp2_with fail
    exact bodyPost_ret (qret rfl _ _ _ #[.bool sg, .slice A1 n1 c2] rfl rfl F.out.1) rfl F.out.2
set_option maxHeartbeats 8000000 in
theorem qadd_any {w : World} {u v : Value} {a b : Int} {L M K : Nat} (hu : Qi w u a L) (hv : Qi w v b M) (hL : L ≤ K) (hM : M ≤ K) (hK : K ≤ 400000000000) :
    Calls Tryz.prog 103 #[u, v] w (QRet w (a + b) (K + 1)) := by
  obtain ⟨s, x, A, n, c, rfl, hu, hx, sx⟩ := hu.parts
  obtain ⟨t, y, D, m, d, rfl, hv, hy, sy⟩ := hv.parts
  obtain ⟨a3, z3, hsz, p0, p1, q0, q1⟩ := q_world w s t A D n c m d
  have HU := hide (hu.step a3)
  have HV := hide (hv.step a3)
  have HA := hide a3
  have HZ := hide z3
  have HS := hide (show w.heap.size + 1 + 1 < (((w.alloc (qbox s (.slice A n c))).alloc (qbox t (.slice D m d))).alloc qblk).heap.size by rw [hsz]; omega)
  clear hu hv a3 z3 hsz
  clear sx sy
  by_cases hst : s = t
  · subst hst
    have tb : (s == s) = true := by simp
    have HX : Hid (zi s (x + y) = a + b) := hide (by rw [← hx, ← hy]; unfold zi; cases s <;> simp <;> omega)
    clear hx hy
    go_enter Tryz.func103, Tryz.ntmps103
    go_wp2_with fail
    generalize hW0 : ((w.alloc (qbox s (.slice A n c))).alloc (qbox s (.slice D m d))).alloc qblk = W0 at *
    have p0d : W0.drew.cell? ⟨w.heap.size, 0, none⟩ = some (.bool s) := p0
    have p1d : W0.drew.cell? ⟨w.heap.size, 1, none⟩ = some (.slice A n c) := p1
    have q0d : W0.drew.cell? ⟨w.heap.size + 1, 0, none⟩ = some (.bool s) := q0
    have q1d : W0.drew.cell? ⟨w.heap.size + 1, 1, none⟩ = some (.slice D m d) := q1
    have C := hide (iadd (w := W0.drew) HU.out.iw HV.out.iw (show K ≤ 800000000000 by omega) hL hM)
    go_region_held3 (fun W => W.cell? ⟨w.heap.size, 0, none⟩ = some (.bool s) ∧ W.cell? ⟨w.heap.size, 1, none⟩ = some (.slice A n c) ∧ W.cell? ⟨w.heap.size + 1, 0, none⟩ = some (.bool s) ∧ W.cell? ⟨w.heap.size + 1, 1, none⟩ = some (.slice D m d))
      (first
        | with_reducible exact ⟨p0d, p1d, q0d, q1d⟩
        | with_reducible exact ⟨cell_keep p0d b1, cell_keep p1d b1, cell_keep q0d b1, cell_keep q1d b1⟩
        | with_reducible exact ⟨cell_keep (cell_keep p0d b1) b2, cell_keep (cell_keep p1d b1) b2, cell_keep (cell_keep q0d b1) b2, cell_keep (cell_keep q1d b1) b2⟩
        | with_reducible exact ⟨cell_zset (cell_keep (cell_keep p0d b1) b2) (by simp <;> omega) _ _, cell_zset (cell_keep (cell_keep p1d b1) b2) (by simp <;> omega) _ _, cell_zset (cell_keep (cell_keep q0d b1) b2) (by simp <;> omega) _ _, cell_zset (cell_keep (cell_keep q1d b1) b2) (by simp <;> omega) _ _⟩)
      (first
        | (go_at_call 65; (with_reducible refine C.out.mono ?_); rintro e w1 ⟨r, rfl, -, c1, b1⟩; have FM := hide (form_any (s := s) c1.iw (by omega) HX.out))
        | (go_at_call 68; (with_reducible refine FM.out.mono ?_); rintro e w2 ⟨v, rfl, qv, b2⟩; obtain ⟨sg, A1, n1, c2, rfl, k0, k1, f0, f1, fin⟩ := q_ret (w0 := w) qv ((HZ.out.step HS.out (below_of_drew b1)).step (Nat.lt_of_lt_of_le HS.out b1.size) b2) (by omega) (HA.out.trans (((below_of_drew b1).trans (b2.mono b1.size)).mono HA.out.size))))
    all_goals
      have F := hide fin
      clear fin
      go_wp2_with fail
      exact bodyPost_ret (qret rfl _ _ _ #[.bool sg, .slice A1 n1 c2] rfl rfl F.out.1) rfl F.out.2
  · have tb : (s == t) = false := by simpa using hst
    by_cases hle : y ≤ x
    · have HX : Hid (zi s (x - y) = a + b) := hide (by rw [← hx, ← hy]; unfold zi; cases s <;> cases t <;> simp at hst ⊢ <;> omega)
      have HLE := hide hle
      have hc : cmpN x y = 0 ∨ cmpN x y = 1 := by
        unfold cmpN
        rw [if_neg (by omega)]
        split
        · exact .inr rfl
        · exact .inl rfl
      have HC := hide hc
      obtain ⟨k, hk⟩ : ∃ k, Hid (cmpN x y = k) := ⟨_, hide rfl⟩
      have t2 : decide ((0 : Int) ≤ k) = true := decide_eq_true (by rw [← hk.out]; omega)
      clear hx hy hst hle hc
      go_enter Tryz.func103, Tryz.ntmps103
      go_wp2_with fail
      generalize hW0 : ((w.alloc (qbox s (.slice A n c))).alloc (qbox t (.slice D m d))).alloc qblk = W0 at *
      refine (icmp (w := W0) HU.out.iw HV.out.iw (by omega) (by omega)).mono ?_
      rw [hk.out]
      rintro e w_ ⟨rfl, rfl⟩
      go_wp2_with fail
      have p0d : W0.drew.cell? ⟨w.heap.size, 0, none⟩ = some (.bool s) := p0
      have p1d : W0.drew.cell? ⟨w.heap.size, 1, none⟩ = some (.slice A n c) := p1
      have q0d : W0.drew.cell? ⟨w.heap.size + 1, 0, none⟩ = some (.bool t) := q0
      have q1d : W0.drew.cell? ⟨w.heap.size + 1, 1, none⟩ = some (.slice D m d) := q1
      have C := hide (isub (w := W0.drew) HU.out.iw HV.out.iw (by omega) (by omega) HLE.out)
      go_region_held3 (fun W => W.cell? ⟨w.heap.size, 0, none⟩ = some (.bool s) ∧ W.cell? ⟨w.heap.size, 1, none⟩ = some (.slice A n c) ∧ W.cell? ⟨w.heap.size + 1, 0, none⟩ = some (.bool t) ∧ W.cell? ⟨w.heap.size + 1, 1, none⟩ = some (.slice D m d))
        (first
          | with_reducible exact ⟨p0d, p1d, q0d, q1d⟩
          | with_reducible exact ⟨cell_keep p0d b1, cell_keep p1d b1, cell_keep q0d b1, cell_keep q1d b1⟩
          | with_reducible exact ⟨cell_keep (cell_keep p0d b1) b2, cell_keep (cell_keep p1d b1) b2, cell_keep (cell_keep q0d b1) b2, cell_keep (cell_keep q1d b1) b2⟩
          | with_reducible exact ⟨cell_zset (cell_keep (cell_keep p0d b1) b2) (by simp <;> omega) _ _, cell_zset (cell_keep (cell_keep p1d b1) b2) (by simp <;> omega) _ _, cell_zset (cell_keep (cell_keep q0d b1) b2) (by simp <;> omega) _ _, cell_zset (cell_keep (cell_keep q1d b1) b2) (by simp <;> omega) _ _⟩)
        (first
          | (go_at_call 93; (with_reducible refine C.out.mono ?_); rintro e w1 ⟨r, rfl, -, c1, b1⟩; have FM := hide (form_any (s := s) (c1.more (show L ≤ K + 1 by omega)).iw (by omega) HX.out))
          | (go_at_call 68; (with_reducible refine FM.out.mono ?_); rintro e w2 ⟨v, rfl, qv, b2⟩; obtain ⟨sg, A1, n1, c2, rfl, k0, k1, f0, f1, fin⟩ := q_ret (w0 := w) qv ((HZ.out.step HS.out (below_of_drew b1)).step (Nat.lt_of_lt_of_le HS.out b1.size) b2) (by omega) (HA.out.trans (((below_of_drew b1).trans (b2.mono b1.size)).mono HA.out.size))))
      all_goals
        have F := hide fin
        clear fin
        go_wp2_with fail
        exact bodyPost_ret (qret rfl _ _ _ #[.bool sg, .slice A1 n1 c2] rfl rfl F.out.1) rfl F.out.2
    · have HX : Hid (zi t (y - x) = a + b) := hide (by rw [← hx, ← hy]; unfold zi; cases s <;> cases t <;> simp at hst ⊢ <;> omega)
      have HLE := hide (Nat.le_of_lt (Nat.lt_of_not_le hle))
      obtain ⟨k, hk⟩ : ∃ k, Hid (cmpN x y = k) := ⟨_, hide rfl⟩
      have hc : cmpN x y = -1 := by unfold cmpN; rw [if_pos (by omega)]
      have t2 : decide ((0 : Int) ≤ k) = false := decide_eq_false (by rw [← hk.out]; omega)
      clear hx hy hst hle hc
      go_enter Tryz.func103, Tryz.ntmps103
      go_wp2_with fail
      generalize hW0 : ((w.alloc (qbox s (.slice A n c))).alloc (qbox t (.slice D m d))).alloc qblk = W0 at *
      refine (icmp (w := W0) HU.out.iw HV.out.iw (by omega) (by omega)).mono ?_
      rw [hk.out]
      rintro e w_ ⟨rfl, rfl⟩
      go_wp2_with fail
      have p0d : W0.drew.cell? ⟨w.heap.size, 0, none⟩ = some (.bool s) := p0
      have p1d : W0.drew.cell? ⟨w.heap.size, 1, none⟩ = some (.slice A n c) := p1
      have q0d : W0.drew.cell? ⟨w.heap.size + 1, 0, none⟩ = some (.bool t) := q0
      have q1d : W0.drew.cell? ⟨w.heap.size + 1, 1, none⟩ = some (.slice D m d) := q1
      have C := hide (isub (w := W0.drew) HV.out.iw HU.out.iw (by omega) (by omega) HLE.out)
      go_region_held3 (fun W => W.cell? ⟨w.heap.size, 0, none⟩ = some (.bool s) ∧ W.cell? ⟨w.heap.size, 1, none⟩ = some (.slice A n c) ∧ W.cell? ⟨w.heap.size + 1, 0, none⟩ = some (.bool t) ∧ W.cell? ⟨w.heap.size + 1, 1, none⟩ = some (.slice D m d))
        (first
          | with_reducible exact ⟨p0d, p1d, q0d, q1d⟩
          | with_reducible exact ⟨cell_keep p0d b1, cell_keep p1d b1, cell_keep q0d b1, cell_keep q1d b1⟩
          | with_reducible exact ⟨cell_keep (cell_keep p0d b1) b2, cell_keep (cell_keep p1d b1) b2, cell_keep (cell_keep q0d b1) b2, cell_keep (cell_keep q1d b1) b2⟩
          | with_reducible exact ⟨cell_zset (cell_keep (cell_keep p0d b1) b2) (by simp <;> omega) _ _, cell_zset (cell_keep (cell_keep p1d b1) b2) (by simp <;> omega) _ _, cell_zset (cell_keep (cell_keep q0d b1) b2) (by simp <;> omega) _ _, cell_zset (cell_keep (cell_keep q1d b1) b2) (by simp <;> omega) _ _⟩)
        (first
          | (go_at_call 93; (with_reducible refine C.out.mono ?_); rintro e w1 ⟨r, rfl, -, c1, b1⟩; have FM := hide (form_any (s := t) (c1.more (show M ≤ K + 1 by omega)).iw (by omega) HX.out))
          | (go_at_call 68; (with_reducible refine FM.out.mono ?_); rintro e w2 ⟨v, rfl, qv, b2⟩; obtain ⟨sg, A1, n1, c2, rfl, k0, k1, f0, f1, fin⟩ := q_ret (w0 := w) qv ((HZ.out.step HS.out (below_of_drew b1)).step (Nat.lt_of_lt_of_le HS.out b1.size) b2) (by omega) (HA.out.trans (((below_of_drew b1).trans (b2.mono b1.size)).mono HA.out.size))))
      all_goals
        have F := hide fin
        clear fin
        go_wp2_with fail
        exact bodyPost_ret (qret rfl _ _ _ #[.bool sg, .slice A1 n1 c2] rfl rfl F.out.1) rfl F.out.2
theorem Za.of {w : World} {s : Bool} {u : Value} {x L : Nat} (h : Nw w u x L) : Za w (zv s u) (zi s x) L := ⟨s, u, x, rfl, h, rfl⟩
theorem zmul_a {w : World} {u v : Value} {a b : Int} {L M K : Nat} (hu : Za w u a L) (hv : Za w v b M) (hL : L ≤ 17592186044416) (hM : M ≤ 17592186044416) (hK : (a * b).natAbs < Q ^ K) :
    Calls Tryz.prog 50 #[u, v] w (ZRet w (a * b) K) := by
  obtain ⟨s, u, x, rfl, hu, rfl⟩ := hu
  obtain ⟨t, v, y, rfl, hv, rfl⟩ := hv
  rw [Int.natAbs_mul, zi_abs, zi_abs] at hK
  refine (zmul_any hu hv hL hM hK).mono fun e w' h => h.zret ?_
  unfold zi
  cases s <;> cases t <;> simp [Int.mul_neg, Int.neg_mul]
theorem Below.step1 {W W1 W2 : World} (h : Below W.heap.size W W1) (hb : Below W1.heap.size W1 W2) : Below W.heap.size W W2 := Below.step h h.size hb
end Go.Proofs.YtpfeacdhplbblaaGreat
