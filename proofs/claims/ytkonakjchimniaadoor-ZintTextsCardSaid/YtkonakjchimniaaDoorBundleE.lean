/-
  Shared texts, one behind the other: ZrefA, ZrefB, ZrefC, ZrefD, ZrefE, SpeakZ, Zorder.
-/
import Derived.Test.YtkonakjchimniaaDoorBundleD
import Derived.Test.YtkonakjchimniaaDoorBundleC
import Derived.Deep.RegionHeld3

/-
  The document's own answer for whole numbers: its values, form, Sign, Neg.
-/

namespace Go.Proofs.YtkonakjchimniaaDoor
open Go.RowKit Go.Proofs.YtkonakjchimniaaDoor.Num
set_option linter.unusedVariables false
set_option maxRecDepth 100000

theorem qret {fn : Func} {p : Tmp} (h : fn.results = #[.cell p 45]) (tmps : Array Value) (w : World) (g : Nat) (cs : Array Value) (hs : cs.size = 2)
    (hp : tmps.getD p undef = .pointer (some ⟨g, 0, none⟩)) (hg : w.heap[g]? = some (.cells cs 45 (0, 0))) : (results fn tmps).run Tryd.prog w = .ok (.agg cs) w :=
  results_cell_row h tmps w g 45 cs (0, 0) _ hp hg Tryd.underlying45 rfl (by rw [hs]; kernel_rfl)

abbrev qblk : Obj := .cells #[.bool false, .slice none 0 0] 45
abbrev qbox (s : Bool) (u : Value) : Obj := .cells #[.bool s, u] 45
def Qb (w : World) (g : Nat) : Prop := w.heap[g]? = some qblk
theorem Qb.new (w : World) : Qb (w.alloc qblk) w.heap.size := heap_alloc_new _ _
theorem Qb.step {w w' : World} {g : Nat} (h : Qb w g) (hg : g < w.heap.size) (hb : Below w.heap.size w w') : Qb w' g := (hb.block g hg).trans h
theorem Qb.c0 {w : World} {g : Nat} (h : Qb w g) : w.cell? ⟨g, 0, none⟩ = some (.bool false) := cell_of_row w g 0 _ _ _ h
theorem Qb.c1 {w : World} {g : Nat} (h : Qb w g) : w.cell? ⟨g, 1, none⟩ = some (.slice none 0 0) := cell_of_row w g 1 _ _ _ h
theorem Qb.fz {w : World} {g : Nat} (h : Qb w g) (j : Nat) : w.frozen? ⟨g, j, none⟩ = false := frozen_of_row w g j _ _ h
theorem Qb.set {w : World} {g : Nat} (h : Qb w g) (a b : Value) : ((w.setCell ⟨g, 0, none⟩ a).setCell ⟨g, 1, none⟩ b).heap[g]? = some (.cells #[a, b] 45 (0, 0)) :=
  heap_setCell_same _ g 1 _ _ b (heap_setCell_same w g 0 _ _ a h)

/-- A list of numbers does not lie in such a block, of one type or the other. -/
theorem Rd.qset {k : IntKind} {w : World} {B n g : Nat} {A : Option Addr} {xs : List Nat} {t : TypeId} (h : Rd k w B A n xs) (hz : w.heap[g]? = some (.cells #[.bool false, .slice none 0 0] t (0, 0))) (a b : Value) : Rd k ((w.setCell ⟨g, 0, none⟩ a).setCell ⟨g, 1, none⟩ b) B A n xs := by
  refine ⟨h.1, fun hn => ?_⟩
  obtain ⟨bb, off, e, hb, hc⟩ := h.2 hn
  refine ⟨bb, off, e, hb, fun j hj => ?_⟩
  have hne : bb ≠ g := by
    rintro rfl
    have h1 := hc 0 hn
    rw [Nat.add_zero, cell_of_row w bb off _ _ _ hz] at h1
    match off, h1 with
    | 0, h1 => simp at h1
    | 1, h1 => simp at h1
    | (k + 2), h1 => simp at h1
  rw [World.cell?_setCell_other _ _ _ _ (by intro h2; apply hne; injection h2 with h3; exact h3.symm), World.cell?_setCell_other _ _ _ _ (by intro h2; apply hne; injection h2 with h3; exact h3.symm)]
  exact hc j hj
theorem Ic.qset {w : World} {v : Value} {x L g : Nat} {t : TypeId} (h : Ic w v x L) (hz : w.heap[g]? = some (.cells #[.bool false, .slice none 0 0] t (0, 0))) (a b : Value) : Ic ((w.setCell ⟨g, 0, none⟩ a).setCell ⟨g, 1, none⟩ b) v x L := by
  obtain ⟨A, c, e, h1, h2⟩ := h
  exact ⟨A, c, e, by rw [size_zset]; exact h1.qset hz a b, h2⟩
theorem Iw.slice {w : World} {u : Value} {x L : Nat} (h : Iw w u x L) : ∃ A n c, u = .slice A n c := by
  obtain ⟨A, n, c, xs, e, _⟩ := h
  exact ⟨A, n, c, e⟩

/-- The one form of z, in the document's own answer. -/
def Qi (w : World) (v : Value) (z : Int) (L : Nat) : Prop := ∃ u, v = zv (decide (z < 0)) u ∧ Ic w u z.natAbs L
def QRet (w : World) (z : Int) (L : Nat) (e : Ending) (w' : World) : Prop := ∃ v, e = .returned v ∧ Qi w' v z L ∧ Below w.heap.size w w'
theorem Qi.step {w w' : World} {v : Value} {z : Int} {L : Nat} (h : Qi w v z L) (hb : Below w.heap.size w w') : Qi w' v z L := by
  obtain ⟨u, e, hc⟩ := h
  exact ⟨u, e, hc.step hb⟩
theorem Qi.more {w : World} {v : Value} {z : Int} {L M : Nat} (h : Qi w v z L) (hL : L ≤ M) : Qi w v z M := by
  obtain ⟨u, e, hc⟩ := h
  exact ⟨u, e, hc.more hL⟩
theorem Ic.len0 {w : World} {A : Option Addr} {n c x L : Nat} (h : Ic w (.slice A n c) x L) : (n = 0 ↔ x = 0) ∧ n ≤ L := by
  obtain ⟨A', c', e, h1, h2⟩ := h
  cases e
  refine ⟨⟨fun h => (cn_eq_nil B_two).1 (List.eq_nil_of_length_eq_zero h), fun h => by subst h; rw [cn_zero]; rfl⟩, h2⟩

theorem q_fit {w0 w : World} {s : Bool} {A : Option Addr} {n c x L g : Nat} {z : Int} (h : Ic w (.slice A n c) x L) (hz : Qb w g) (hg0 : w0.heap.size ≤ g) (hb : Below w0.heap.size w0 w) (hs : s = decide (z < 0)) (hx : z.natAbs = x) :
    w.cell? ⟨g, 0, none⟩ = some (.bool false) ∧ w.cell? ⟨g, 1, none⟩ = some (.slice none 0 0) ∧ w.frozen? ⟨g, 0, none⟩ = false ∧ w.frozen? ⟨g, 1, none⟩ = false ∧
      (((w.setCell ⟨g, 0, none⟩ (.bool s)).setCell ⟨g, 1, none⟩ (.slice A n c)).heap[g]? = some (.cells #[.bool s, .slice A n c] 45 (0, 0)) ∧
        QRet w0 z L (.returned (zv s (.slice A n c))) ((w.setCell ⟨g, 0, none⟩ (.bool s)).setCell ⟨g, 1, none⟩ (.slice A n c))) := by
  subst hs
  subst hx
  exact ⟨hz.c0, hz.c1, hz.fz 0, hz.fz 1, hz.set _ _, _, rfl, ⟨_, rfl, h.qset hz _ _⟩, (hb.setCell hg0 _).setCell hg0 _⟩

set_option maxHeartbeats 1000000 in
theorem form_any {w : World} {s : Bool} {u : Value} {x L : Nat} {z : Int} (h : Iw w u x L) (hL : L ≤ 800000000000) (hz : zi s x = z) :
    Calls Tryd.prog 70 #[.bool s, u] w (QRet w z L) := by
  subst hz
  obtain ⟨A0, n0, c0, rfl⟩ := h.slice
  have a0 : Below w.heap.size w (w.alloc qblk) := (Below.refl _ _).alloc (Nat.le_refl _) _
  have H := hide (h.step a0)
  have HA := hide a0
  clear h a0
  cases s
  · go_enter Tryd.func70, Tryd.ntmps70
    go_wp2_with fail
    refine (itrim H.out (by omega)).mono ?_
    rintro e w1 ⟨r, rfl, -, c1, b1⟩
    obtain ⟨A, n, c, rfl⟩ := c1.iw.slice
    obtain ⟨k0, k1, f0, f1, fin⟩ := q_fit (w0 := w) (s := false) (z := zi false x) c1 ((Qb.new w).step (by simp) b1) (Nat.le_refl _) (HA.out.trans (b1.mono HA.out.size)) (by rw [← zi_neg]; rfl) (zi_abs _ _)
    have F := hide fin
    clear c1 b1 H HA fin
    go_wp2_with fail
    exact bodyPost_ret (qret rfl _ _ w.heap.size #[.bool false, .slice A n c] rfl rfl F.out.1) rfl F.out.2
  · by_cases hx : x = 0
    · go_enter Tryd.func70, Tryd.ntmps70
      go_wp2_with fail
      refine (itrim H.out (by omega)).mono ?_
      rintro e w1 ⟨r, rfl, -, c1, b1⟩
      obtain ⟨A, n, c, rfl⟩ := c1.iw.slice
      obtain ⟨k0, k1, f0, f1, fin⟩ := q_fit (w0 := w) (s := false) (z := zi true x) c1 ((Qb.new w).step (by simp) b1) (Nat.le_refl _) (HA.out.trans (b1.mono HA.out.size)) (by rw [← zi_neg, hx]; rfl) (zi_abs _ _)
      obtain rfl : n = 0 := c1.len0.1.2 hx
      have F := hide fin
      clear c1 b1 H HA fin hx
      go_wp2_with fail
      exact bodyPost_ret (qret rfl _ _ w.heap.size #[.bool false, .slice A 0 c] rfl rfl F.out.1) rfl F.out.2
    · go_enter Tryd.func70, Tryd.ntmps70
      go_wp2_with fail
      refine (itrim H.out (by omega)).mono ?_
      rintro e w1 ⟨r, rfl, -, c1, b1⟩
      obtain ⟨A, n, c, rfl⟩ := c1.iw.slice
      obtain ⟨k0, k1, f0, f1, fin⟩ := q_fit (w0 := w) (s := true) (z := zi true x) c1 ((Qb.new w).step (by simp) b1) (Nat.le_refl _) (HA.out.trans (b1.mono HA.out.size)) (by rw [← zi_neg, decide_eq_true hx]; rfl) (zi_abs _ _)
      have t1 : decide ((0 : Int) < (n : Int)) = true := decide_eq_true (by have := (not_congr c1.len0.1).2 hx; omega)
      have t2 : decide (0 < n) = true := decide_eq_true (by have := (not_congr c1.len0.1).2 hx; omega)
      have F := hide fin
      clear c1 b1 H HA fin hx
      go_wp2_with fail
      exact bodyPost_ret (qret rfl _ _ w.heap.size #[.bool true, .slice A n c] rfl rfl F.out.1) rfl F.out.2

/-! ### Small numbers -/
/-- An answer of the document's own goes into the result's block. -/
theorem q_ret {w0 w : World} {v : Value} {z : Int} {L g : Nat} (h : Qi w v z L) (hz : Qb w g) (hg0 : w0.heap.size ≤ g) (hb : Below w0.heap.size w0 w) :
    ∃ sg A n c, v = zv sg (.slice A n c) ∧ w.cell? ⟨g, 0, none⟩ = some (.bool false) ∧ w.cell? ⟨g, 1, none⟩ = some (.slice none 0 0) ∧ w.frozen? ⟨g, 0, none⟩ = false ∧ w.frozen? ⟨g, 1, none⟩ = false ∧
      (((w.setCell ⟨g, 0, none⟩ (.bool sg)).setCell ⟨g, 1, none⟩ (.slice A n c)).heap[g]? = some (.cells #[.bool sg, .slice A n c] 45 (0, 0)) ∧
        QRet w0 z L (.returned (zv sg (.slice A n c))) ((w.setCell ⟨g, 0, none⟩ (.bool sg)).setCell ⟨g, 1, none⟩ (.slice A n c))) := by
  obtain ⟨u, rfl, hc⟩ := h
  obtain ⟨A, n, c, rfl⟩ := hc.iw.slice
  exact ⟨_, A, n, c, rfl, q_fit hc hz hg0 hb rfl rfl⟩

set_option maxHeartbeats 2000000 in
theorem qsmall_any (w : World) (z : Int) (h1 : -9223372036854775808 ≤ z) (h2 : z ≤ 9223372036854775807) :
    Calls Tryd.prog 40 #[.int .i64 z] w (QRet w z 6) := by
  have a0 : Below w.heap.size w (w.alloc qblk) := (Below.refl _ _).alloc (Nat.le_refl _) _
  have HA := hide a0
  have HB := hide (Qb.new w)
  by_cases h0 : 0 ≤ z
  · obtain ⟨m, hm⟩ : ∃ m : Nat, (m : Int) = z := ⟨z.toNat, by omega⟩
    subst hm
    have t1 : decide ((0 : Int) ≤ (m : Int)) = true := decide_eq_true h0
    have S := hide (ismall (L := 5) (w.alloc qblk) (x := m) (by omega) (by omega))
    clear a0 h0 h1 h2
    go_enter Tryd.func40, Tryd.ntmps40
    go_wp2_with fail
    refine S.out.mono ?_
    rintro e w1 ⟨r, rfl, -, c1, b1⟩
    have H := hide (c1.more (show 5 ≤ 6 by omega))
    have HB1 := hide (HB.out.step (by simp) b1)
    have HA1 := hide (HA.out.trans (b1.mono HA.out.size))
    have HL := hide (show w.heap.size < w1.heap.size by have := b1.size; simp at this; omega)
    clear c1 b1 S HB HA
    go_wp2_with fail
    refine (form_any (s := false) (z := (m : Int)) H.out.iw (by omega) rfl).mono ?_
    rintro e w2 ⟨v, rfl, qv, b2⟩
    obtain ⟨sg, A, n, c, rfl, k0, k1, f0, f1, fin⟩ := q_ret (w0 := w) qv (HB1.out.step HL.out b2) (Nat.le_refl _) (HA1.out.trans (b2.mono HA1.out.size))
    have F := hide fin
    clear H HB1 HA1 HL qv b2 fin
    go_wp2_with fail
    exact bodyPost_ret (qret rfl _ _ w.heap.size #[.bool sg, .slice A n c] rfl rfl F.out.1) rfl F.out.2
  · have t1 : decide ((0 : Int) ≤ z) = false := decide_eq_false h0
    obtain ⟨k, hk⟩ : ∃ k : Nat, (k : Int) = -(z + 1) := ⟨(-(z + 1)).toNat, by omega⟩
    obtain ⟨y, hy⟩ : ∃ y : Int, z + 1 = y := ⟨_, rfl⟩
    have e1 : IntKind.i64.wrap (z + 1) = y := by rw [IntWalk.i64_in _ (by omega), hy]
    have e2 : IntKind.i64.wrap (-y) = (k : Int) := by rw [IntWalk.i64_in _ (by omega)]; omega
    have S := hide (ismall (L := 5) (w.alloc qblk) (x := k) (by omega) (by omega))
    have hz : Hid (zi true (k + 1) = z) := hide (by unfold zi; simp; omega)
    clear a0 h0 h1 h2 hk hy
    go_enter Tryd.func40, Tryd.ntmps40
    go_wp2_with fail
    refine S.out.mono ?_
    rintro e w1 ⟨r, rfl, -, c1, b1⟩
    have ha : Below w1.heap.size w1 (w1.alloc (.cells #[.int .i64 1] 3)) := (Below.refl _ _).alloc (Nat.le_refl _) _
    have AD := hide (iadd (K := 5) (c1.iw.step ha) (iw_one w1 3 (x := 1) (by omega)) (by omega) (by omega) (by omega))
    have bb := b1.trans (ha.mono b1.size)
    have HB1 := hide (HB.out.step (by simp) bb)
    have HA1 := hide (HA.out.trans (bb.mono HA.out.size))
    have HL := hide (show w.heap.size < (w1.alloc (.cells #[.int .i64 1] 3)).heap.size by have := bb.size; simp at this ⊢; omega)
    clear c1 b1 S HB HA ha bb
    go_wp2_with fail
    refine AD.out.mono ?_
    rintro e w2 ⟨r2, rfl, -, c2, b2⟩
    have H := hide c2
    have HB2 := hide (HB1.out.step HL.out b2)
    have HA2 := hide (HA1.out.trans (b2.mono HA1.out.size))
    have HL2 := hide (Nat.lt_of_lt_of_le HL.out b2.size)
    clear c2 b2 AD HB1 HA1 HL
    go_wp2_with fail
    refine (form_any (s := true) H.out.iw (by omega) hz.out).mono ?_
    rintro e w3 ⟨v, rfl, qv, b3⟩
    obtain ⟨sg, A, n, c, rfl, k0, k1, f0, f1, fin⟩ := q_ret (w0 := w) qv (HB2.out.step HL2.out b3) (Nat.le_refl _) (HA2.out.trans (b3.mono HA2.out.size))
    have F := hide fin
    clear H HB2 HA2 HL2 qv b3 fin
    go_wp2_with fail
    exact bodyPost_ret (qret rfl _ _ w.heap.size #[.bool sg, .slice A n c] rfl rfl F.out.1) rfl F.out.2

/-! ### A number as it is answered -/
theorem to_fit {w0 w : World} {r : Value} {z : Int} {s : Bool} {L g : Nat} (h : Cw w r z.natAbs L) (hz : Zb w g) (hg0 : w0.heap.size ≤ g) (hb : Below w0.heap.size w0 w) (hs : decide (z < 0) = s) :
    ∃ A n c, r = .slice A n c ∧ w.cell? ⟨g, 0, none⟩ = some (.bool false) ∧ w.cell? ⟨g, 1, none⟩ = some (.slice none 0 0) ∧ w.frozen? ⟨g, 0, none⟩ = false ∧ w.frozen? ⟨g, 1, none⟩ = false ∧
      (((w.setCell ⟨g, 0, none⟩ (.bool s)).setCell ⟨g, 1, none⟩ (.slice A n c)).heap[g]? = some (.cells #[.bool s, .slice A n c] 39 (0, 0)) ∧
        ZRet w0 z L (.returned (zv s (.slice A n c))) ((w.setCell ⟨g, 0, none⟩ (.bool s)).setCell ⟨g, 1, none⟩ (.slice A n c))) := by
  subst hs
  obtain ⟨A, c, rfl, -⟩ := id h
  exact ⟨A, _, c, rfl, hz.c0, hz.c1, hz.fz 0, hz.fz 1, hz.set _ _, _, rfl, ⟨_, rfl, h.zset hz _ _⟩, (hb.setCell hg0 _).setCell hg0 _⟩

set_option maxHeartbeats 2000000 in
theorem qto_any {w : World} {v : Value} {z : Int} {L : Nat} (h : Qi w v z L) (hL : L ≤ 100000000000) :
    Calls Tryd.prog 31 #[v] w (ZRet w z L) := by
  obtain ⟨u, rfl, hc⟩ := h
  obtain ⟨A, n, c, rfl⟩ := hc.iw.slice
  obtain ⟨s, hs⟩ : ∃ s, decide (z < 0) = s := ⟨_, rfl⟩
  rw [hs]
  have a1 : Below w.heap.size w (w.alloc (qbox s (.slice A n c))) := (Below.refl _ _).alloc (Nat.le_refl _) _
  have a2 : Below w.heap.size w ((w.alloc (qbox s (.slice A n c))).alloc zblk) := a1.alloc (by simp) _
  have p0 : ((w.alloc (qbox s (.slice A n c))).alloc zblk).cell? ⟨w.heap.size, 0, none⟩ = some (.bool s) := by go_simp
  have p1 : ((w.alloc (qbox s (.slice A n c))).alloc zblk).cell? ⟨w.heap.size, 1, none⟩ = some (.slice A n c) := by go_simp
  have hz : Zb ((w.alloc (qbox s (.slice A n c))).alloc zblk) (w.heap.size + 1) := by have h := Zb.new (w.alloc (qbox s (.slice A n c))); simpa using h
  have HS := hide (show w.heap.size + 1 < ((w.alloc (qbox s (.slice A n c))).alloc zblk).heap.size by simp)
  have H := hide (hc.step a2).iw
  have HA := hide a2
  have HZ := hide hz
  clear hc a1 a2 hz
  go_enter Tryd.func31, Tryd.ntmps31
  go_wp2_with fail
  generalize hW0 : (w.alloc (qbox s (.slice A n c))).alloc zblk = W0 at *
  have p0d : W0.drew.cell? ⟨w.heap.size, 0, none⟩ = some (.bool s) := p0
  have p1d : W0.drew.cell? ⟨w.heap.size, 1, none⟩ = some (.slice A n c) := p1
  have C := hide (to_l (w := W0.drew) (x := z.natAbs) H.out hL)
  go_region_held3 (fun W => W.cell? ⟨w.heap.size, 0, none⟩ = some (.bool s) ∧ W.cell? ⟨w.heap.size, 1, none⟩ = some (.slice A n c))
    (first
      | with_reducible exact ⟨p0d, p1d⟩
      | with_reducible exact ⟨cell_keep p0d b1, cell_keep p1d b1⟩
      | with_reducible exact ⟨cell_zset (cell_keep p0d b1) (by simp <;> omega) _ _, cell_zset (cell_keep p1d b1) (by simp <;> omega) _ _⟩)
    (first | (go_at_call 17; (with_reducible refine C.out.mono ?_); rintro e w1 ⟨r, rfl, -, c1, b1⟩; obtain ⟨A1, n1, c2, rfl, k0, k1, f0, f1, fin⟩ := to_fit (w0 := w) c1 (HZ.out.step HS.out (below_of_drew b1)) (by omega) (HA.out.trans ((below_of_drew b1).mono HA.out.size)) hs))
  all_goals
    have F := hide fin
    clear fin
    go_wp2_with fail
    exact bodyPost_ret (zret rfl _ _ _ #[.bool s, .slice A1 n1 c2] rfl rfl F.out.1) rfl F.out.2
end Go.Proofs.YtkonakjchimniaaDoor

/-
  The document's own answer for whole numbers: Of, Sign, Neg, Same, Copy, Mul.
-/

namespace Go.Proofs.YtkonakjchimniaaDoor
open Go.RowKit Go.Proofs.YtkonakjchimniaaDoor.Num
set_option linter.unusedVariables false
set_option maxRecDepth 100000

set_option maxHeartbeats 2000000 in
theorem qof_any {w : World} {v : Value} {z : Int} {L : Nat} (h : Za w v z L) (hL : L ≤ 1000000000) :
    Calls Tryd.prog 27 #[v] w (QRet w z (5 * L)) := by
  obtain ⟨s, u, x, rfl, hu, hx⟩ := h
  obtain ⟨A, n, c, rfl⟩ := hu.slice
  have a1 : Below w.heap.size w (w.alloc (zbox s (.slice A n c))) := (Below.refl _ _).alloc (Nat.le_refl _) _
  have a2 : Below w.heap.size w ((w.alloc (zbox s (.slice A n c))).alloc qblk) := a1.alloc (by simp) _
  have p0 : ((w.alloc (zbox s (.slice A n c))).alloc qblk).cell? ⟨w.heap.size, 0, none⟩ = some (.bool s) := by go_simp
  have p1 : ((w.alloc (zbox s (.slice A n c))).alloc qblk).cell? ⟨w.heap.size, 1, none⟩ = some (.slice A n c) := by go_simp
  have hz : Qb ((w.alloc (zbox s (.slice A n c))).alloc qblk) (w.heap.size + 1) := by have h := Qb.new (w.alloc (zbox s (.slice A n c))); simpa using h
  have HS := hide (show w.heap.size + 1 < ((w.alloc (zbox s (.slice A n c))).alloc qblk).heap.size by simp)
  have H := hide (hu.step a2)
  have HA := hide a2
  have HZ := hide hz
  have HX := hide hx
  clear hu a1 a2 hz hx
  go_enter Tryd.func27, Tryd.ntmps27
  go_wp2_with fail
  generalize hW0 : (w.alloc (zbox s (.slice A n c))).alloc qblk = W0 at *
  have p0d : W0.drew.cell? ⟨w.heap.size, 0, none⟩ = some (.bool s) := p0
  have p1d : W0.drew.cell? ⟨w.heap.size, 1, none⟩ = some (.slice A n c) := p1
  have C : Hid (Calls Tryd.prog 15 #[.slice A n c] W0.drew (INew W0.drew x (5 * L))) := hide (by
    obtain ⟨xs, hxs, hl⟩ := H.out.lw
    subst hxs
    exact of_l (w := W0.drew) hl hL)
  go_region_held3 (fun W => W.cell? ⟨w.heap.size, 0, none⟩ = some (.bool s) ∧ W.cell? ⟨w.heap.size, 1, none⟩ = some (.slice A n c))
    (first
      | with_reducible exact ⟨p0d, p1d⟩
      | with_reducible exact ⟨cell_keep p0d b1, cell_keep p1d b1⟩
      | with_reducible exact ⟨cell_keep (cell_keep p0d b1) b2, cell_keep (cell_keep p1d b1) b2⟩
      | with_reducible exact ⟨cell_zset (cell_keep (cell_keep p0d b1) b2) (by simp <;> omega) _ _, cell_zset (cell_keep (cell_keep p1d b1) b2) (by simp <;> omega) _ _⟩)
    (first
      | (go_at_call 15; (with_reducible refine C.out.mono ?_); rintro e w1 ⟨r, rfl, -, c1, b1⟩; have FM := hide (form_any (s := s) c1.iw (by omega) HX.out))
      | (go_at_call 70; (with_reducible refine FM.out.mono ?_); rintro e w2 ⟨v, rfl, qv, b2⟩; obtain ⟨sg, A1, n1, c2, rfl, k0, k1, f0, f1, fin⟩ := q_ret (w0 := w) qv ((HZ.out.step HS.out (below_of_drew b1)).step (Nat.lt_of_lt_of_le HS.out b1.size) b2) (by omega) (HA.out.trans (((below_of_drew b1).trans (b2.mono b1.size)).mono HA.out.size))))
  all_goals
    have F := hide fin
    clear fin
    go_wp2_with fail
    exact bodyPost_ret (qret rfl _ _ _ #[.bool sg, .slice A1 n1 c2] rfl rfl F.out.1) rfl F.out.2

set_option maxHeartbeats 1000000 in
theorem qsign_any {w : World} {v : Value} {z : Int} {L : Nat} (h : Qi w v z L) :
    Calls Tryd.prog 28 #[v] w fun e w' => e = .returned (.int .i64 (zsg z)) ∧ Below w.heap.size w w' := by
  obtain ⟨u, rfl, hc⟩ := h
  obtain ⟨A, n, c, rfl⟩ := hc.iw.slice
  have a1 : Below w.heap.size w (w.alloc (qbox (decide (z < 0)) (.slice A n c))) := (Below.refl _ _).alloc (Nat.le_refl _) _
  have HA := hide a1
  have hn := hc.len0.1
  clear a1 hc
  rcases Int.lt_trichotomy z 0 with hz | hz | hz
  · have e : zsg z = -1 := by unfold zsg; rw [if_neg (by omega), if_pos hz]
    have t0 : decide (z < 0) = true := decide_eq_true hz
    have hn0 : n ≠ 0 := fun h => by have := hn.1 h; omega
    have t1 : ((n : Int) == 0) = false := beq_eq_false_iff_ne.2 (by omega)
    rw [t0] at HA
    rw [t0, e]
    clear hn hz e t0
    go_enter Tryd.func28, Tryd.ntmps28
    go_wp2_with fail
    go_ret
    exact ⟨rfl, HA.out⟩
  · subst hz
    obtain rfl : n = 0 := hn.2 rfl
    clear hn
    go_enter Tryd.func28, Tryd.ntmps28
    go_wp2_with fail
    go_ret
    exact ⟨rfl, HA.out⟩
  · have e : zsg z = 1 := by unfold zsg; rw [if_neg (by omega), if_neg (by omega)]
    have t0 : decide (z < 0) = false := decide_eq_false (by omega)
    have hn0 : n ≠ 0 := fun h => by have := hn.1 h; omega
    have t1 : ((n : Int) == 0) = false := beq_eq_false_iff_ne.2 (by omega)
    rw [t0] at HA
    rw [t0, e]
    clear hn hz e t0
    go_enter Tryd.func28, Tryd.ntmps28
    go_wp2_with fail
    go_ret
    exact ⟨rfl, HA.out⟩

set_option maxHeartbeats 1000000 in
theorem qneg_any {w : World} {v : Value} {z : Int} {L : Nat} (h : Qi w v z L) (hL : L ≤ 800000000000) :
    Calls Tryd.prog 71 #[v] w (QRet w (-z) L) := by
  obtain ⟨u, rfl, hc⟩ := h
  obtain ⟨A, n, c, rfl⟩ := hc.iw.slice
  obtain ⟨s, hs⟩ : ∃ s, decide (z < 0) = s := ⟨_, rfl⟩
  have hzz : Hid (zi (!s) z.natAbs = -z) := hide (by
    unfold zi
    by_cases h : z < 0
    · rw [decide_eq_true h] at hs; subst hs; simp only [Bool.not_true, Bool.false_eq_true, if_false]; omega
    · rw [decide_eq_false h] at hs; subst hs; simp only [Bool.not_false, if_true]; omega)
  rw [hs]
  have a1 : Below w.heap.size w (w.alloc (qbox s (.slice A n c))) := (Below.refl _ _).alloc (Nat.le_refl _) _
  have a2 : Below w.heap.size w ((w.alloc (qbox s (.slice A n c))).alloc qblk) := a1.alloc (by simp) _
  have hz : Qb ((w.alloc (qbox s (.slice A n c))).alloc qblk) (w.heap.size + 1) := by have h := Qb.new (w.alloc (qbox s (.slice A n c))); simpa using h
  have HS := hide (show w.heap.size + 1 < ((w.alloc (qbox s (.slice A n c))).alloc qblk).heap.size by simp)
  have FM := hide (form_any (s := !s) (hc.step a2).iw hL hzz.out)
  have HA := hide a2
  have HZ := hide hz
  clear hc a1 a2 hz hs hzz
  go_enter Tryd.func71, Tryd.ntmps71
  go_wp2_with fail
  refine FM.out.mono ?_
  rintro e w2 ⟨v, rfl, qv, b2⟩
  obtain ⟨sg, A1, n1, c2, rfl, k0, k1, f0, f1, fin⟩ := q_ret (w0 := w) qv (HZ.out.step HS.out b2) (by omega) (HA.out.trans (b2.mono HA.out.size))
  have F := hide fin
  clear fin FM HA HZ HS qv b2
  go_wp2_with fail
  exact bodyPost_ret (qret rfl _ _ _ #[.bool sg, .slice A1 n1 c2] rfl rfl F.out.1) rfl F.out.2

/-! ### Same, Copy -/
theorem Lw.qset {w : World} {v : Value} {xs : List Nat} {L g : Nat} {t : TypeId} (h : Lw w v xs L) (hz : w.heap[g]? = some (.cells #[.bool false, .slice none 0 0] t (0, 0))) (a b : Value) : Lw ((w.setCell ⟨g, 0, none⟩ a).setCell ⟨g, 1, none⟩ b) v xs L := by
  obtain ⟨A, n, c, e, h1, h2⟩ := h
  exact ⟨A, n, c, e, by rw [size_zset]; exact h1.qset hz a b, h2⟩
theorem copy_fit {w0 w : World} {r : Value} {s : Bool} {xs : List Nat} {L g : Nat} (h : Lw w r xs L) (hz : Zb w g) (hg0 : w0.heap.size ≤ g) (hb : Below w0.heap.size w0 w) :
    ∃ A n c, r = .slice A n c ∧ w.cell? ⟨g, 0, none⟩ = some (.bool false) ∧ w.cell? ⟨g, 1, none⟩ = some (.slice none 0 0) ∧ w.frozen? ⟨g, 0, none⟩ = false ∧ w.frozen? ⟨g, 1, none⟩ = false ∧
      (((w.setCell ⟨g, 0, none⟩ (.bool s)).setCell ⟨g, 1, none⟩ (.slice A n c)).heap[g]? = some (.cells #[.bool s, .slice A n c] 39 (0, 0)) ∧
        ∃ r', Ending.returned (zv s (.slice A n c)) = .returned (zv s r') ∧ Lw ((w.setCell ⟨g, 0, none⟩ (.bool s)).setCell ⟨g, 1, none⟩ (.slice A n c)) r' xs L ∧ Below w0.heap.size w0 ((w.setCell ⟨g, 0, none⟩ (.bool s)).setCell ⟨g, 1, none⟩ (.slice A n c))) := by
  obtain ⟨A, n, c, rfl⟩ := h.nw.slice
  exact ⟨A, n, c, rfl, hz.c0, hz.c1, hz.fz 0, hz.fz 1, hz.set _ _, _, rfl, h.qset hz _ _, (hb.setCell hg0 _).setCell hg0 _⟩

set_option maxHeartbeats 1000000 in
theorem zsame_l {w : World} {s : Bool} {u v : Value} {xs : List Nat} {L M : Nat} (hu : Lw w u xs L) (hv : Lw w v xs M) :
    Calls Tryd.prog 29 #[zv s u, zv s v] w fun e w' => e = .returned (.bool true) ∧ Below w.heap.size w w' := by
  obtain ⟨A, n, c, rfl⟩ := hu.nw.slice
  obtain ⟨D, m, d, rfl⟩ := hv.nw.slice
  have a1 : Below w.heap.size w (w.alloc (zbox s (.slice A n c))) := (Below.refl _ _).alloc (Nat.le_refl _) _
  have a2 : Below w.heap.size w ((w.alloc (zbox s (.slice A n c))).alloc (zbox s (.slice D m d))) := a1.alloc (by simp) _
  have S := hide (same_l (hu.step a2) (hv.step a2))
  have HA := hide a2
  have t1 : (s == s) = true := by simp
  clear hu hv a1 a2
  go_enter Tryd.func29, Tryd.ntmps29
  go_wp2_with (go_at_call 16; refine S.out.mono ?_; rintro e w1 ⟨rfl, b1⟩)
  go_ret
  exact ⟨rfl, HA.out.trans (b1.mono HA.out.size)⟩

set_option maxHeartbeats 2000000 in
theorem zcopy_l {w : World} {s : Bool} {u : Value} {xs : List Nat} {L : Nat} (hu : Lw w u xs L) (hL : L ≤ 17592186044000) :
    Calls Tryd.prog 25 #[zv s u] w fun e w' => ∃ r, e = .returned (zv s r) ∧ Lw w' r xs L ∧ Below w.heap.size w w' := by
  obtain ⟨A, n, c, rfl⟩ := hu.nw.slice
  have a1 : Below w.heap.size w (w.alloc (zbox s (.slice A n c))) := (Below.refl _ _).alloc (Nat.le_refl _) _
  have a2 : Below w.heap.size w ((w.alloc (zbox s (.slice A n c))).alloc zblk) := a1.alloc (by simp) _
  have p0 : ((w.alloc (zbox s (.slice A n c))).alloc zblk).cell? ⟨w.heap.size, 0, none⟩ = some (.bool s) := by go_simp
  have p1 : ((w.alloc (zbox s (.slice A n c))).alloc zblk).cell? ⟨w.heap.size, 1, none⟩ = some (.slice A n c) := by go_simp
  have hz : Zb ((w.alloc (zbox s (.slice A n c))).alloc zblk) (w.heap.size + 1) := by have h := Zb.new (w.alloc (zbox s (.slice A n c))); simpa using h
  have HS := hide (show w.heap.size + 1 < ((w.alloc (zbox s (.slice A n c))).alloc zblk).heap.size by simp)
  have H := hide (hu.step a2)
  have HA := hide a2
  have HZ := hide hz
  clear hu a1 a2 hz
  go_enter Tryd.func25, Tryd.ntmps25
  go_wp2_with fail
  generalize hW0 : (w.alloc (zbox s (.slice A n c))).alloc zblk = W0 at *
  have p0d : W0.drew.cell? ⟨w.heap.size, 0, none⟩ = some (.bool s) := p0
  have p1d : W0.drew.cell? ⟨w.heap.size, 1, none⟩ = some (.slice A n c) := p1
  have C := hide (copy_l (w := W0.drew) H.out hL)
  go_region_held3 (fun W => W.cell? ⟨w.heap.size, 0, none⟩ = some (.bool s) ∧ W.cell? ⟨w.heap.size, 1, none⟩ = some (.slice A n c))
    (first
      | with_reducible exact ⟨p0d, p1d⟩
      | with_reducible exact ⟨cell_keep p0d b1, cell_keep p1d b1⟩
      | with_reducible exact ⟨cell_zset (cell_keep p0d b1) (by simp <;> omega) _ _, cell_zset (cell_keep p1d b1) (by simp <;> omega) _ _⟩)
    (first
      | (go_at_call 12; (with_reducible refine C.out.mono ?_); rintro e w1 ⟨r, rfl, -, c1, b1⟩; obtain ⟨A1, n1, c2, rfl, k0, k1, f0, f1, fin⟩ := copy_fit (w0 := w) (s := s) c1 (HZ.out.step HS.out (below_of_drew b1)) (by omega) (HA.out.trans ((below_of_drew b1).mono HA.out.size))))
  all_goals
    have F := hide fin
    clear fin
    go_wp2_with fail
    exact bodyPost_ret (zret rfl _ _ _ #[.bool s, .slice A1 n1 c2] rfl rfl F.out.1) rfl F.out.2
end Go.Proofs.YtkonakjchimniaaDoor

/-
  The document's own answer for whole numbers: Mul, Add, Sub, Cmp.
-/

namespace Go.Proofs.YtkonakjchimniaaDoor
open Go.RowKit Go.Proofs.YtkonakjchimniaaDoor.Num
set_option linter.unusedVariables false
set_option maxRecDepth 100000

theorem Qi.parts {w : World} {v : Value} {z : Int} {L : Nat} (h : Qi w v z L) : ∃ s x A n c, v = zv s (.slice A n c) ∧ Ic w (.slice A n c) x L ∧ zi s x = z ∧ (x = 0 → s = false) := by
  obtain ⟨u, rfl, hc⟩ := h
  obtain ⟨A, n, c, rfl⟩ := hc.iw.slice
  refine ⟨_, z.natAbs, A, n, c, rfl, hc, ?_, fun h => decide_eq_false (by omega)⟩
  unfold zi
  by_cases h : z < 0
  · rw [decide_eq_true h]; simp only [if_true]; omega
  · rw [decide_eq_false h]; simp only [Bool.false_eq_true, if_false]; omega

/-- Where the three blocks of a call lie, and what they hold. -/
theorem q_world (w : World) (s t : Bool) (A D : Option Addr) (n c m d : Nat) :
    let W := ((w.alloc (qbox s (.slice A n c))).alloc (qbox t (.slice D m d))).alloc qblk
    Below w.heap.size w W ∧ Qb W (w.heap.size + 1 + 1) ∧ W.heap.size = w.heap.size + 3 ∧ W.cell? ⟨w.heap.size, 0, none⟩ = some (.bool s) ∧ W.cell? ⟨w.heap.size, 1, none⟩ = some (.slice A n c) ∧
      W.cell? ⟨w.heap.size + 1, 0, none⟩ = some (.bool t) ∧ W.cell? ⟨w.heap.size + 1, 1, none⟩ = some (.slice D m d) := by
  intro W
  have a1 : Below w.heap.size w (w.alloc (qbox s (.slice A n c))) := (Below.refl _ _).alloc (Nat.le_refl _) _
  have a2 : Below w.heap.size w ((w.alloc (qbox s (.slice A n c))).alloc (qbox t (.slice D m d))) := a1.alloc (by simp) _
  have a3 : Below w.heap.size w W := a2.alloc (by simp; omega) _
  have z3 : Qb W (w.heap.size + 1 + 1) := by have h := Qb.new ((w.alloc (qbox s (.slice A n c))).alloc (qbox t (.slice D m d))); simpa using h
  refine ⟨a3, z3, by simp [W], ?_, ?_, ?_, ?_⟩ <;> (simp only [W]; go_simp)

set_option maxHeartbeats 4000000 in
theorem qmul_any {w : World} {u v : Value} {a b : Int} {L M : Nat} (hu : Qi w u a L) (hv : Qi w v b M) (hL : L ≤ 400000000000) (hM : M ≤ 400000000000) :
    Calls Tryd.prog 73 #[u, v] w (QRet w (a * b) (L + M)) := by
  obtain ⟨s, x, A, n, c, rfl, hu, hx, sx⟩ := hu.parts
  obtain ⟨t, y, D, m, d, rfl, hv, hy, sy⟩ := hv.parts
  obtain ⟨a3, z3, hsz, p0, p1, q0, q1⟩ := q_world w s t A D n c m d
  have HU := hide (hu.step a3)
  have HV := hide (hv.step a3)
  have HA := hide a3
  have HZ := hide z3
  have HS := hide (show w.heap.size + 1 + 1 < (((w.alloc (qbox s (.slice A n c))).alloc (qbox t (.slice D m d))).alloc qblk).heap.size by rw [hsz]; omega)
  clear hu hv a3 z3 hsz
  have HX : Hid (zi (!(s == t)) (x * y) = a * b) := hide (by rw [← hx, ← hy]; unfold zi; cases s <;> cases t <;> simp [Int.neg_mul, Int.mul_neg])
  clear hx hy sx sy
  go_enter Tryd.func73, Tryd.ntmps73
  go_wp2_with fail
  generalize hW0 : ((w.alloc (qbox s (.slice A n c))).alloc (qbox t (.slice D m d))).alloc qblk = W0 at *
  have p0d : W0.drew.cell? ⟨w.heap.size, 0, none⟩ = some (.bool s) := p0
  have p1d : W0.drew.cell? ⟨w.heap.size, 1, none⟩ = some (.slice A n c) := p1
  have q0d : W0.drew.cell? ⟨w.heap.size + 1, 0, none⟩ = some (.bool t) := q0
  have q1d : W0.drew.cell? ⟨w.heap.size + 1, 1, none⟩ = some (.slice D m d) := q1
  have C := hide (imul (w := W0.drew) HU.out.iw HV.out.iw hL hM)
  go_region_held3 (fun W => W.cell? ⟨w.heap.size, 0, none⟩ = some (.bool s) ∧ W.cell? ⟨w.heap.size, 1, none⟩ = some (.slice A n c) ∧ W.cell? ⟨w.heap.size + 1, 0, none⟩ = some (.bool t) ∧ W.cell? ⟨w.heap.size + 1, 1, none⟩ = some (.slice D m d))
    (first
      | with_reducible exact ⟨p0d, p1d, q0d, q1d⟩
      | with_reducible exact ⟨cell_keep p0d b1, cell_keep p1d b1, cell_keep q0d b1, cell_keep q1d b1⟩
      | with_reducible exact ⟨cell_keep (cell_keep p0d b1) b2, cell_keep (cell_keep p1d b1) b2, cell_keep (cell_keep q0d b1) b2, cell_keep (cell_keep q1d b1) b2⟩
      | with_reducible exact ⟨cell_zset (cell_keep (cell_keep p0d b1) b2) (by simp <;> omega) _ _, cell_zset (cell_keep (cell_keep p1d b1) b2) (by simp <;> omega) _ _, cell_zset (cell_keep (cell_keep q0d b1) b2) (by simp <;> omega) _ _, cell_zset (cell_keep (cell_keep q1d b1) b2) (by simp <;> omega) _ _⟩)
    (first
      | (go_at_call 60; (with_reducible refine C.out.mono ?_); rintro e w1 ⟨r, rfl, -, c1, b1⟩; have FM := hide (form_any (s := !(s == t)) c1.iw (by omega) HX.out))
      | (go_at_call 70; (with_reducible refine FM.out.mono ?_); rintro e w2 ⟨v, rfl, qv, b2⟩; obtain ⟨sg, A1, n1, c2, rfl, k0, k1, f0, f1, fin⟩ := q_ret (w0 := w) qv ((HZ.out.step HS.out (below_of_drew b1)).step (Nat.lt_of_lt_of_le HS.out b1.size) b2) (by omega) (HA.out.trans (((below_of_drew b1).trans (b2.mono b1.size)).mono HA.out.size))))
  all_goals
    have F := hide fin
    clear fin
    go_wp2_with fail
    exact bodyPost_ret (qret rfl _ _ _ #[.bool sg, .slice A1 n1 c2] rfl rfl F.out.1) rfl F.out.2

set_option maxHeartbeats 8000000 in
theorem qadd_any {w : World} {u v : Value} {a b : Int} {L M K : Nat} (hu : Qi w u a L) (hv : Qi w v b M) (hL : L ≤ K) (hM : M ≤ K) (hK : K ≤ 400000000000) :
    Calls Tryd.prog 97 #[u, v] w (QRet w (a + b) (K + 1)) := by
  obtain ⟨s, x, A, n, c, rfl, hu, hx, sx⟩ := hu.parts
  obtain ⟨t, y, D, m, d, rfl, hv, hy, sy⟩ := hv.parts
  obtain ⟨a3, z3, hsz, p0, p1, q0, q1⟩ := q_world w s t A D n c m d
  have HU := hide (hu.step a3)
  have HV := hide (hv.step a3)
  have HA := hide a3
  have HZ := hide z3
  have HS := hide (show w.heap.size + 1 + 1 < (((w.alloc (qbox s (.slice A n c))).alloc (qbox t (.slice D m d))).alloc qblk).heap.size by rw [hsz]; omega)
  clear hu hv a3 z3 hsz
  clear sx sy
  by_cases hst : s = t
  · subst hst
    have tb : (s == s) = true := by simp
    have HX : Hid (zi s (x + y) = a + b) := hide (by rw [← hx, ← hy]; unfold zi; cases s <;> simp <;> omega)
    clear hx hy
    go_enter Tryd.func97, Tryd.ntmps97
    go_wp2_with fail
    generalize hW0 : ((w.alloc (qbox s (.slice A n c))).alloc (qbox s (.slice D m d))).alloc qblk = W0 at *
    have p0d : W0.drew.cell? ⟨w.heap.size, 0, none⟩ = some (.bool s) := p0
    have p1d : W0.drew.cell? ⟨w.heap.size, 1, none⟩ = some (.slice A n c) := p1
    have q0d : W0.drew.cell? ⟨w.heap.size + 1, 0, none⟩ = some (.bool s) := q0
    have q1d : W0.drew.cell? ⟨w.heap.size + 1, 1, none⟩ = some (.slice D m d) := q1
    have C := hide (iadd (w := W0.drew) HU.out.iw HV.out.iw (show K ≤ 800000000000 by omega) hL hM)
    go_region_held3 (fun W => W.cell? ⟨w.heap.size, 0, none⟩ = some (.bool s) ∧ W.cell? ⟨w.heap.size, 1, none⟩ = some (.slice A n c) ∧ W.cell? ⟨w.heap.size + 1, 0, none⟩ = some (.bool s) ∧ W.cell? ⟨w.heap.size + 1, 1, none⟩ = some (.slice D m d))
      (first
        | with_reducible exact ⟨p0d, p1d, q0d, q1d⟩
        | with_reducible exact ⟨cell_keep p0d b1, cell_keep p1d b1, cell_keep q0d b1, cell_keep q1d b1⟩
        | with_reducible exact ⟨cell_keep (cell_keep p0d b1) b2, cell_keep (cell_keep p1d b1) b2, cell_keep (cell_keep q0d b1) b2, cell_keep (cell_keep q1d b1) b2⟩
        | with_reducible exact ⟨cell_zset (cell_keep (cell_keep p0d b1) b2) (by simp <;> omega) _ _, cell_zset (cell_keep (cell_keep p1d b1) b2) (by simp <;> omega) _ _, cell_zset (cell_keep (cell_keep q0d b1) b2) (by simp <;> omega) _ _, cell_zset (cell_keep (cell_keep q1d b1) b2) (by simp <;> omega) _ _⟩)
      (first
        | (go_at_call 59; (with_reducible refine C.out.mono ?_); rintro e w1 ⟨r, rfl, -, c1, b1⟩; have FM := hide (form_any (s := s) c1.iw (by omega) HX.out))
        | (go_at_call 70; (with_reducible refine FM.out.mono ?_); rintro e w2 ⟨v, rfl, qv, b2⟩; obtain ⟨sg, A1, n1, c2, rfl, k0, k1, f0, f1, fin⟩ := q_ret (w0 := w) qv ((HZ.out.step HS.out (below_of_drew b1)).step (Nat.lt_of_lt_of_le HS.out b1.size) b2) (by omega) (HA.out.trans (((below_of_drew b1).trans (b2.mono b1.size)).mono HA.out.size))))
    all_goals
      have F := hide fin
      clear fin
      go_wp2_with fail
      exact bodyPost_ret (qret rfl _ _ _ #[.bool sg, .slice A1 n1 c2] rfl rfl F.out.1) rfl F.out.2
  · have tb : (s == t) = false := by simpa using hst
    by_cases hle : y ≤ x
    · have HX : Hid (zi s (x - y) = a + b) := hide (by rw [← hx, ← hy]; unfold zi; cases s <;> cases t <;> simp at hst ⊢ <;> omega)
      have HLE := hide hle
      have hc : cmpN x y = 0 ∨ cmpN x y = 1 := by
        unfold cmpN
        rw [if_neg (by omega)]
        split
        · exact .inr rfl
        · exact .inl rfl
      have HC := hide hc
      obtain ⟨k, hk⟩ : ∃ k, Hid (cmpN x y = k) := ⟨_, hide rfl⟩
      have t2 : decide ((0 : Int) ≤ k) = true := decide_eq_true (by rw [← hk.out]; omega)
      clear hx hy hst hle hc
      go_enter Tryd.func97, Tryd.ntmps97
      go_wp2_with fail
      generalize hW0 : ((w.alloc (qbox s (.slice A n c))).alloc (qbox t (.slice D m d))).alloc qblk = W0 at *
      refine (icmp (w := W0) HU.out.iw HV.out.iw (by omega) (by omega)).mono ?_
      rw [hk.out]
      rintro e w_ ⟨rfl, rfl⟩
      go_wp2_with fail
      have p0d : W0.drew.cell? ⟨w.heap.size, 0, none⟩ = some (.bool s) := p0
      have p1d : W0.drew.cell? ⟨w.heap.size, 1, none⟩ = some (.slice A n c) := p1
      have q0d : W0.drew.cell? ⟨w.heap.size + 1, 0, none⟩ = some (.bool t) := q0
      have q1d : W0.drew.cell? ⟨w.heap.size + 1, 1, none⟩ = some (.slice D m d) := q1
      have C := hide (isub (w := W0.drew) HU.out.iw HV.out.iw (by omega) (by omega) HLE.out)
      go_region_held3 (fun W => W.cell? ⟨w.heap.size, 0, none⟩ = some (.bool s) ∧ W.cell? ⟨w.heap.size, 1, none⟩ = some (.slice A n c) ∧ W.cell? ⟨w.heap.size + 1, 0, none⟩ = some (.bool t) ∧ W.cell? ⟨w.heap.size + 1, 1, none⟩ = some (.slice D m d))
        (first
          | with_reducible exact ⟨p0d, p1d, q0d, q1d⟩
          | with_reducible exact ⟨cell_keep p0d b1, cell_keep p1d b1, cell_keep q0d b1, cell_keep q1d b1⟩
          | with_reducible exact ⟨cell_keep (cell_keep p0d b1) b2, cell_keep (cell_keep p1d b1) b2, cell_keep (cell_keep q0d b1) b2, cell_keep (cell_keep q1d b1) b2⟩
          | with_reducible exact ⟨cell_zset (cell_keep (cell_keep p0d b1) b2) (by simp <;> omega) _ _, cell_zset (cell_keep (cell_keep p1d b1) b2) (by simp <;> omega) _ _, cell_zset (cell_keep (cell_keep q0d b1) b2) (by simp <;> omega) _ _, cell_zset (cell_keep (cell_keep q1d b1) b2) (by simp <;> omega) _ _⟩)
        (first
          | (go_at_call 64; (with_reducible refine C.out.mono ?_); rintro e w1 ⟨r, rfl, -, c1, b1⟩; have FM := hide (form_any (s := s) (c1.more (show L ≤ K + 1 by omega)).iw (by omega) HX.out))
          | (go_at_call 70; (with_reducible refine FM.out.mono ?_); rintro e w2 ⟨v, rfl, qv, b2⟩; obtain ⟨sg, A1, n1, c2, rfl, k0, k1, f0, f1, fin⟩ := q_ret (w0 := w) qv ((HZ.out.step HS.out (below_of_drew b1)).step (Nat.lt_of_lt_of_le HS.out b1.size) b2) (by omega) (HA.out.trans (((below_of_drew b1).trans (b2.mono b1.size)).mono HA.out.size))))
      all_goals
        have F := hide fin
        clear fin
        go_wp2_with fail
        exact bodyPost_ret (qret rfl _ _ _ #[.bool sg, .slice A1 n1 c2] rfl rfl F.out.1) rfl F.out.2
    · have HX : Hid (zi t (y - x) = a + b) := hide (by rw [← hx, ← hy]; unfold zi; cases s <;> cases t <;> simp at hst ⊢ <;> omega)
      have HLE := hide (Nat.le_of_lt (Nat.lt_of_not_le hle))
      obtain ⟨k, hk⟩ : ∃ k, Hid (cmpN x y = k) := ⟨_, hide rfl⟩
      have hc : cmpN x y = -1 := by unfold cmpN; rw [if_pos (by omega)]
      have t2 : decide ((0 : Int) ≤ k) = false := decide_eq_false (by rw [← hk.out]; omega)
      clear hx hy hst hle hc
      go_enter Tryd.func97, Tryd.ntmps97
      go_wp2_with fail
      generalize hW0 : ((w.alloc (qbox s (.slice A n c))).alloc (qbox t (.slice D m d))).alloc qblk = W0 at *
      refine (icmp (w := W0) HU.out.iw HV.out.iw (by omega) (by omega)).mono ?_
      rw [hk.out]
      rintro e w_ ⟨rfl, rfl⟩
      go_wp2_with fail
      have p0d : W0.drew.cell? ⟨w.heap.size, 0, none⟩ = some (.bool s) := p0
      have p1d : W0.drew.cell? ⟨w.heap.size, 1, none⟩ = some (.slice A n c) := p1
      have q0d : W0.drew.cell? ⟨w.heap.size + 1, 0, none⟩ = some (.bool t) := q0
      have q1d : W0.drew.cell? ⟨w.heap.size + 1, 1, none⟩ = some (.slice D m d) := q1
      have C := hide (isub (w := W0.drew) HV.out.iw HU.out.iw (by omega) (by omega) HLE.out)
      go_region_held3 (fun W => W.cell? ⟨w.heap.size, 0, none⟩ = some (.bool s) ∧ W.cell? ⟨w.heap.size, 1, none⟩ = some (.slice A n c) ∧ W.cell? ⟨w.heap.size + 1, 0, none⟩ = some (.bool t) ∧ W.cell? ⟨w.heap.size + 1, 1, none⟩ = some (.slice D m d))
        (first
          | with_reducible exact ⟨p0d, p1d, q0d, q1d⟩
          | with_reducible exact ⟨cell_keep p0d b1, cell_keep p1d b1, cell_keep q0d b1, cell_keep q1d b1⟩
          | with_reducible exact ⟨cell_keep (cell_keep p0d b1) b2, cell_keep (cell_keep p1d b1) b2, cell_keep (cell_keep q0d b1) b2, cell_keep (cell_keep q1d b1) b2⟩
          | with_reducible exact ⟨cell_zset (cell_keep (cell_keep p0d b1) b2) (by simp <;> omega) _ _, cell_zset (cell_keep (cell_keep p1d b1) b2) (by simp <;> omega) _ _, cell_zset (cell_keep (cell_keep q0d b1) b2) (by simp <;> omega) _ _, cell_zset (cell_keep (cell_keep q1d b1) b2) (by simp <;> omega) _ _⟩)
        (first
          | (go_at_call 64; (with_reducible refine C.out.mono ?_); rintro e w1 ⟨r, rfl, -, c1, b1⟩; have FM := hide (form_any (s := t) (c1.more (show M ≤ K + 1 by omega)).iw (by omega) HX.out))
          | (go_at_call 70; (with_reducible refine FM.out.mono ?_); rintro e w2 ⟨v, rfl, qv, b2⟩; obtain ⟨sg, A1, n1, c2, rfl, k0, k1, f0, f1, fin⟩ := q_ret (w0 := w) qv ((HZ.out.step HS.out (below_of_drew b1)).step (Nat.lt_of_lt_of_le HS.out b1.size) b2) (by omega) (HA.out.trans (((below_of_drew b1).trans (b2.mono b1.size)).mono HA.out.size))))
      all_goals
        have F := hide fin
        clear fin
        go_wp2_with fail
        exact bodyPost_ret (qret rfl _ _ _ #[.bool sg, .slice A1 n1 c2] rfl rfl F.out.1) rfl F.out.2
end Go.Proofs.YtkonakjchimniaaDoor

/-
  The document's own answer for whole numbers: Sub, Cmp, Text.
-/

namespace Go.Proofs.YtkonakjchimniaaDoor
open Go.RowKit Go.Proofs.YtkonakjchimniaaDoor.Num
set_option linter.unusedVariables false
set_option maxRecDepth 100000

set_option maxHeartbeats 4000000 in
theorem qsub_any {w : World} {u v : Value} {a b : Int} {L M K : Nat} (hu : Qi w u a L) (hv : Qi w v b M) (hL : L ≤ K) (hM : M ≤ K) (hK : K ≤ 400000000000) :
    Calls Tryd.prog 72 #[u, v] w (QRet w (a - b) (K + 1)) := by
  obtain ⟨s, x, A, n, c, rfl, -, -, -⟩ := id hu.parts
  obtain ⟨t, y, D, m, d, rfl, -, -, -⟩ := id hv.parts
  obtain ⟨a3, z3, hsz, p0, p1, q0, q1⟩ := q_world w s t A D n c m d
  have HU := hide (hu.step a3)
  have HV := hide (hv.step a3)
  have HA := hide a3
  have HZ := hide z3
  have HS := hide (show w.heap.size + 1 + 1 < (((w.alloc (qbox s (.slice A n c))).alloc (qbox t (.slice D m d))).alloc qblk).heap.size by rw [hsz]; omega)
  clear hu hv a3 z3 hsz
  go_enter Tryd.func72, Tryd.ntmps72
  go_wp2_with fail
  generalize hW0 : ((w.alloc (qbox s (.slice A n c))).alloc (qbox t (.slice D m d))).alloc qblk = W0 at *
  have p0d : W0.drew.cell? ⟨w.heap.size, 0, none⟩ = some (.bool s) := p0
  have p1d : W0.drew.cell? ⟨w.heap.size, 1, none⟩ = some (.slice A n c) := p1
  have q0d : W0.drew.cell? ⟨w.heap.size + 1, 0, none⟩ = some (.bool t) := q0
  have q1d : W0.drew.cell? ⟨w.heap.size + 1, 1, none⟩ = some (.slice D m d) := q1
  have C := hide (qneg_any (w := W0.drew) HV.out (show M ≤ 800000000000 by omega))
  go_region_held3 (fun W => W.cell? ⟨w.heap.size, 0, none⟩ = some (.bool s) ∧ W.cell? ⟨w.heap.size, 1, none⟩ = some (.slice A n c) ∧ W.cell? ⟨w.heap.size + 1, 0, none⟩ = some (.bool t) ∧ W.cell? ⟨w.heap.size + 1, 1, none⟩ = some (.slice D m d))
    (first
      | with_reducible exact ⟨p0d, p1d, q0d, q1d⟩
      | with_reducible exact ⟨cell_keep p0d b1, cell_keep p1d b1, cell_keep q0d b1, cell_keep q1d b1⟩
      | with_reducible exact ⟨cell_keep (cell_keep p0d b1) b2, cell_keep (cell_keep p1d b1) b2, cell_keep (cell_keep q0d b1) b2, cell_keep (cell_keep q1d b1) b2⟩
      | with_reducible exact ⟨cell_zset (cell_keep (cell_keep p0d b1) b2) (by simp <;> omega) _ _, cell_zset (cell_keep (cell_keep p1d b1) b2) (by simp <;> omega) _ _, cell_zset (cell_keep (cell_keep q0d b1) b2) (by simp <;> omega) _ _, cell_zset (cell_keep (cell_keep q1d b1) b2) (by simp <;> omega) _ _⟩)
    (first
      | (go_at_call 71; (with_reducible refine C.out.mono ?_); rintro e w1 ⟨nb, rfl, qn, b1⟩; have FM := hide (Int.sub_eq_add_neg ▸ qadd_any (K := K) (HU.out.step (below_of_drew b1)) qn hL hM hK))
      | (go_at_call 97; (with_reducible refine FM.out.mono ?_); rintro e w2 ⟨v, rfl, qv, b2⟩; obtain ⟨sg, A1, n1, c2, rfl, k0, k1, f0, f1, fin⟩ := q_ret (w0 := w) qv ((HZ.out.step HS.out (below_of_drew b1)).step (Nat.lt_of_lt_of_le HS.out b1.size) b2) (by omega) (HA.out.trans (((below_of_drew b1).trans (b2.mono b1.size)).mono HA.out.size))))
  all_goals
    have F := hide fin
    clear fin
    go_wp2_with fail
    exact bodyPost_ret (qret rfl _ _ _ #[.bool sg, .slice A1 n1 c2] rfl rfl F.out.1) rfl F.out.2

theorem zsg_sub (a b : Int) : zsg (a - b) = cmpZ a b := by
  unfold zsg cmpZ
  rcases Int.lt_trichotomy a b with h | h | h
  · rw [if_neg (by omega), if_pos (by omega), if_pos h]
  · rw [if_pos (by omega), if_neg (by omega), if_neg (by omega)]
  · rw [if_neg (by omega), if_neg (by omega), if_neg (by omega), if_pos h]
set_option maxHeartbeats 4000000 in
theorem qcmp_any {w : World} {u v : Value} {a b : Int} {L M K : Nat} (hu : Qi w u a L) (hv : Qi w v b M) (hL : L ≤ K) (hM : M ≤ K) (hK : K ≤ 400000000000) :
    Calls Tryd.prog 41 #[u, v] w fun e w' => e = .returned (.int .i64 (cmpZ a b)) ∧ Below w.heap.size w w' := by
  obtain ⟨s, x, A, n, c, rfl, -, -, -⟩ := id hu.parts
  obtain ⟨t, y, D, m, d, rfl, -, -, -⟩ := id hv.parts
  have a1 : Below w.heap.size w (w.alloc (qbox s (.slice A n c))) := (Below.refl _ _).alloc (Nat.le_refl _) _
  have a2 : Below w.heap.size w ((w.alloc (qbox s (.slice A n c))).alloc (qbox t (.slice D m d))) := a1.alloc (by simp) _
  have C := hide (qsub_any (hu.step a2) (hv.step a2) hL hM hK)
  have HA := hide a2
  rw [← zsg_sub]
  clear hu hv a1 a2
  go_enter Tryd.func41, Tryd.ntmps41
  go_wp2_with fail
  refine C.out.mono ?_
  rintro e w1 ⟨v, rfl, qv, b1⟩
  have H := hide qv
  have HA1 := hide (HA.out.trans (b1.mono HA.out.size))
  clear qv b1 C HA
  go_wp2_with fail
  refine (qsign_any H.out).mono ?_
  rintro e w2 ⟨rfl, b2⟩
  have HA2 := hide (HA1.out.trans (b2.mono HA1.out.size))
  clear H HA1 b2
  go_wp2_with fail
  go_ret
  exact ⟨rfl, HA2.out⟩
end Go.Proofs.YtkonakjchimniaaDoor

/-
  The document's own answer for whole numbers: Text.
-/

namespace Go.Proofs.YtkonakjchimniaaDoor
open Go.RowKit Go.Proofs.YtkonakjchimniaaDoor.Num
set_option linter.unusedVariables false
set_option maxRecDepth 100000

theorem rdtext_len {n L : Nat} (h : n < 10000 ^ L) : (dtext n).length ≤ 4 * L + 1 := by
  unfold dtext
  split
  · simp
  · rw [List.length_reverse, List.length_map]
    have h2 : 10000 ^ L = (10 ^ 4) ^ L := rfl
    rw [h2, ← Nat.pow_mul] at h
    have := cn_length_le (B := 10) (by omega) h
    omega

set_option maxHeartbeats 1000000 in
theorem qtext_any {w : World} {v : Value} {z : Int} {L : Nat} (h : Qi w v z L) (hL : L ≤ 10000000000) :
    Calls Tryd.prog 45 #[v] w fun e w' => e = .returned (.string ⟨(ztxt z).toArray⟩) ∧ Below w.heap.size w w' := by
  obtain ⟨u, rfl, hc⟩ := h
  obtain ⟨A, n, c, rfl⟩ := hc.iw.slice
  have a1 : Below w.heap.size w (w.alloc (qbox (decide (z < 0)) (.slice A n c))) := (Below.refl _ _).alloc (Nat.le_refl _) _
  have HA := hide a1
  obtain ⟨T, hT⟩ : ∃ T : ByteArray, Tx T z.natAbs := ⟨_, Tx.of _⟩
  have TS := hide (rtext_s (hc.step a1).iw hT (by omega))
  have hts : T.size ≤ 40000000001 := by
    have h1 := rdtext_len (n := z.natAbs) (L := L) hc.iw.lt
    rw [← show T.data.toList = dtext z.natAbs from hT, Array.length_toList] at h1
    show T.data.size ≤ _
    omega
  clear hc a1
  by_cases h0 : z < 0
  · have e : ztxt z = 45 :: T.data.toList := by unfold ztxt; rw [if_pos h0]; rw [show T.data.toList = dtext z.natAbs from hT]
    have t0 : decide (z < 0) = true := decide_eq_true h0
    rw [t0] at TS HA
    rw [e, t0]
    clear h0 e hT t0
    go_enter Tryd.func45, Tryd.ntmps45
    go_wp2_with fail
    refine TS.out.mono ?_
    rintro e w2 ⟨rfl, b2⟩
    have B2 := hide (HA.out.trans (b2.mono HA.out.size))
    clear TS HA b2
    go_wp2_with fail
    go_ret
    exact ⟨by rw [← cat45]; rfl, B2.out⟩
  · have e : (⟨(ztxt z).toArray⟩ : ByteArray) = T := by unfold ztxt; rw [if_neg h0]; exact Tx.eq hT
    have t0 : decide (z < 0) = false := decide_eq_false h0
    rw [t0] at TS HA
    rw [e, t0]
    clear h0 e hT t0
    go_enter Tryd.func45, Tryd.ntmps45
    go_wp2_with fail
    refine TS.out.mono ?_
    rintro e w2 ⟨rfl, b2⟩
    have B2 := hide (HA.out.trans (b2.mono HA.out.size))
    clear TS HA b2
    go_wp2_with fail
    go_ret
    exact ⟨rfl, B2.out⟩
end Go.Proofs.YtkonakjchimniaaDoor

/-
  Whole numbers: the document's examples.
-/

namespace Go.Proofs.YtkonakjchimniaaDoor
open Go.RowKit Go.Proofs.YtkonakjchimniaaDoor.Num
set_option linter.unusedVariables false
set_option maxRecDepth 100000

theorem zq_1 : zq (-7) 2 = -4 := by decide
theorem zr_1 : zr (-7) 2 = 1 := by decide
theorem zq_2 : zq 7 (-2) = -4 := by decide
theorem zr_2 : zr 7 (-2) = -1 := by decide

theorem Zi.lw {w : World} {v : Value} {z : Int} {L : Nat} (h : Zi w v z L) (hL : L ≤ 17592186044000) : ∃ A n c, v = zv (decide (z < 0)) (.slice A n c) ∧ Nw w (.slice A n c) z.natAbs L := by
  obtain ⟨u, rfl, hc⟩ := h
  obtain ⟨A, n, c, rfl⟩ := hc.nw.slice
  exact ⟨A, n, c, rfl, hc.nw⟩

theorem cw_lw {w : World} {v : Value} {x L : Nat} (h : Cw w v x L) : Lw w v (cn Q x) L := by
  obtain ⟨A, c, rfl, h1, h2, h3, h4⟩ := h
  exact ⟨A, _, c, rfl, h1, dg_cn Q_two x, by omega, by omega, by omega⟩

/-- Two whole numbers in their one form, as one. -/
theorem zsame_i {w : World} {u v : Value} {z : Int} {L M : Nat} (hu : Zi w u z L) (hv : Zi w v z M) :
    Calls Tryd.prog 29 #[u, v] w fun e w' => e = .returned (.bool true) ∧ Below w.heap.size w w' := by
  obtain ⟨u, rfl, hc⟩ := hu
  obtain ⟨v, rfl, hd⟩ := hv
  exact zsame_l (xs := cn Q z.natAbs) (L := L) (M := M) (cw_lw hc) (cw_lw hd)

/-- The block g holds this whole number. -/
def Bx (w : World) (g : Nat) (s : Bool) (A : Option Addr) (n c : Nat) : Prop := w.cell? ⟨g, 0, none⟩ = some (.bool s) ∧ w.cell? ⟨g, 1, none⟩ = some (.slice A n c)
theorem Bx.step {w w' : World} {g : Nat} {s : Bool} {A : Option Addr} {n c : Nat} (h : Bx w g s A n c) (hb : Below w.heap.size w w') : Bx w' g s A n c := ⟨cell_keep h.1 hb, cell_keep h.2 hb⟩
theorem box2 (w : World) (s t : Bool) (A D : Option Addr) (n c m d : Nat) :
    Below w.heap.size w ((w.alloc (zbox s (.slice A n c))).alloc (zbox t (.slice D m d))) ∧ Bx ((w.alloc (zbox s (.slice A n c))).alloc (zbox t (.slice D m d))) w.heap.size s A n c ∧ Bx ((w.alloc (zbox s (.slice A n c))).alloc (zbox t (.slice D m d))) (w.heap.size + 1) t D m d := by
  refine ⟨((Below.refl _ _).alloc (Nat.le_refl _) _).alloc (by simp) _, ⟨?_, ?_⟩, ⟨?_, ?_⟩⟩ <;> go_simp
theorem box1 (w : World) (s : Bool) (A : Option Addr) (n c : Nat) :
    Below w.heap.size w (w.alloc (zbox s (.slice A n c))) ∧ Bx (w.alloc (zbox s (.slice A n c))) w.heap.size s A n c := by
  refine ⟨(Below.refl _ _).alloc (Nat.le_refl _) _, ⟨?_, ?_⟩⟩ <;> go_simp
theorem bel_step {w W W' : World} (h : Below w.heap.size w W) (hb : Below W.heap.size W W') : Below w.heap.size w W' := h.trans (hb.mono h.size)
theorem zi_nil (w : World) : Zi w (zv false (.slice none 0 0)) 0 0 := by
  refine ⟨_, rfl, none, 0, ?_⟩
  rw [show (0 : Int).natAbs = 0 from rfl, cn_zero]
  exact ⟨rfl, ⟨rfl, fun h => absurd h (by simp)⟩, Nat.le_refl _, by simp [maxLen], Nat.le_refl _⟩
theorem zp_0 : zpcode [45, 48] = 0 ∧ zval [45, 48] = 0 := by decide +kernel
theorem zt_0 : ztxt (-9223372036854775808) = [45, 57, 50, 50, 51, 51, 55, 50, 48, 51, 54, 56, 53, 52, 55, 55, 53, 56, 48, 56] := by
  have h : cn 10 9223372036854775808 = [8, 0, 8, 5, 7, 7, 4, 5, 8, 6, 3, 0, 2, 7, 3, 3, 2, 2, 9] := cn_lit (by omega) (dg_lit (by decide +kernel)) (by decide +kernel) (by decide)
  unfold ztxt dtext
  rw [if_pos (by omega), show (-9223372036854775808 : Int).natAbs = 9223372036854775808 from rfl, if_neg (by omega), h]
  rfl

set_option maxHeartbeats 8000000 in
theorem zspeaks_true (w : World) : Calls Tryd.prog 23 #[] w fun e w' => e = .returned (.bool true) ∧ Below w.heap.size w w' := by
  go_enter Tryd.func23, Tryd.ntmps23
  go_wp2_with fail
  refine (zof_any w (-7) (by omega) (by omega)).mono ?_
  rintro e w1 ⟨v1, rfl, h1, b1⟩
  have H1 := hide h1
  have B1 := hide b1
  clear h1 b1
  go_wp2_with fail
  refine (zof_any w1 2 (by omega) (by omega)).mono ?_
  rintro e w2 ⟨v2, rfl, h2, b2⟩
  have D := hide (zdiv_any (K := 1) (H1.out.step b2).za h2.za (by omega) (by omega) (by omega) (by omega))
  have B2 := hide (B1.out.trans (b2.mono B1.out.size))
  clear h2 b2 H1 B1
  go_wp2_with fail
  refine D.out.mono ?_
  rintro e w3 ⟨q, r, rfl, hq, hr, b3⟩
  rw [zq_1] at hq
  rw [zr_1] at hr
  obtain ⟨A1, n1, c1, rfl, -⟩ := hq.lw (by omega)
  obtain ⟨A2, n2, c2, rfl, -⟩ := hr.lw (by omega)
  have B3 := hide (B2.out.trans (b3.mono B2.out.size))
  have HQ := hide hq
  have HR := hide hr
  clear hq hr b3 D B2
  simp only [show decide ((-4 : Int) < 0) = true from rfl, show decide ((1 : Int) < 0) = false from rfl] at HQ HR ⊢
  go_wp2_with fail
  obtain ⟨x4, y1, y2⟩ := box2 w3 true false A1 A2 n1 c1 n2 c2
  generalize (w3.alloc (.cells #[.bool true, .slice A1 n1 c1] 39)).alloc (.cells #[.bool false, .slice A2 n2 c2] 39) = w4 at *
  have HQ := hide (HQ.out.step x4)
  have HR := hide (HR.out.step x4)
  have B4 := hide (B3.out.trans (x4.mono B3.out.size))
  have Y1 := hide y1
  have Y2 := hide y2
  generalize w3.heap.size = g1 at *
  clear x4 y1 y2 B3
  refine (zof_any w4 7 (by omega) (by omega)).mono ?_
  rintro e w5 ⟨v5, rfl, h5, b5⟩
  have HQ := hide (HQ.out.step b5)
  have HR := hide (HR.out.step b5)
  have Y1 := hide (Y1.out.step b5)
  have Y2 := hide (Y2.out.step b5)
  have B5 := hide (B4.out.trans (b5.mono B4.out.size))
  have H5 := hide h5
  clear h5 b5 B4
  go_wp2_with fail
  refine (zof_any w5 (-2) (by omega) (by omega)).mono ?_
  rintro e w6 ⟨v6, rfl, h6, b6⟩
  have D := hide (zdiv_any (K := 1) (H5.out.step b6).za h6.za (by omega) (by omega) (by omega) (by omega))
  have HQ := hide (HQ.out.step b6)
  have HR := hide (HR.out.step b6)
  have Y1 := hide (Y1.out.step b6)
  have Y2 := hide (Y2.out.step b6)
  have B6 := hide (B5.out.trans (b6.mono B5.out.size))
  clear h6 b6 H5 B5
  go_wp2_with fail
  refine D.out.mono ?_
  rintro e w7 ⟨q, r, rfl, hq, hr, b7⟩
  rw [zq_2] at hq
  rw [zr_2] at hr
  obtain ⟨A3, n3, c3, rfl, -⟩ := hq.lw (by omega)
  obtain ⟨A4, n4, c4, rfl, -⟩ := hr.lw (by omega)
  have HQ := hide (HQ.out.step b7)
  have HR := hide (HR.out.step b7)
  have Y1 := hide (Y1.out.step b7)
  have Y2 := hide (Y2.out.step b7)
  have B7 := hide (B6.out.trans (b7.mono B6.out.size))
  have HP := hide hq
  have HS := hide hr
  clear hq hr b7 D B6
  simp only [show decide ((-4 : Int) < 0) = true from rfl, show decide ((-1 : Int) < 0) = true from rfl] at HP HS ⊢
  go_wp2_with fail
  obtain ⟨x8, y3, y4⟩ := box2 w7 true true A3 A4 n3 c3 n4 c4
  generalize (w7.alloc (.cells #[.bool true, .slice A3 n3 c3] 39)).alloc (.cells #[.bool true, .slice A4 n4 c4] 39) = w8 at *
  have HQ := hide (HQ.out.step x8)
  have HR := hide (HR.out.step x8)
  have HP := hide (HP.out.step x8)
  have HS := hide (HS.out.step x8)
  have Y1 := hide (Y1.out.step x8)
  have Y2 := hide (Y2.out.step x8)
  have Y3 := hide y3
  have Y4 := hide y4
  have B8 := hide (B7.out.trans (x8.mono B7.out.size))
  generalize w7.heap.size = g2 at *
  clear x8 y3 y4 B7
  refine (zparse_any ⟨#[45, 48]⟩ w8 (by decide)).mono ?_
  rintro e w9 ⟨-, hz0, b9⟩
  obtain ⟨v9, rfl, hz1⟩ := hz0 zp_0.1
  have hz : Zi w9 v9 0 200 := by have h := hz1; rw [show (⟨#[45, 48]⟩ : ByteArray).data.toList = [45, 48] from rfl, zp_0.2] at h; exact h
  obtain ⟨A5, n5, c5, rfl, -⟩ := hz.lw (by omega)
  have HQ := hide (HQ.out.step b9)
  have HR := hide (HR.out.step b9)
  have HP := hide (HP.out.step b9)
  have HS := hide (HS.out.step b9)
  have Y1 := hide (Y1.out.step b9)
  have Y2 := hide (Y2.out.step b9)
  have Y3 := hide (Y3.out.step b9)
  have Y4 := hide (Y4.out.step b9)
  have B9 := hide (B8.out.trans (b9.mono B8.out.size))
  have HZ := hide hz
  clear hz hz0 hz1 b9 B8
  simp only [show decide ((0 : Int) < 0) = false from rfl] at HZ ⊢
  go_wp2_with fail
  obtain ⟨x10, y5⟩ := box1 w9 false A5 n5 c5
  generalize w9.alloc (.cells #[.bool false, .slice A5 n5 c5] 39) = w10 at *
  have Y1 := hide (Y1.out.step x10)
  have Y2 := hide (Y2.out.step x10)
  have Y3 := hide (Y3.out.step x10)
  have Y4 := hide (Y4.out.step x10)
  have Y5 := hide y5
  have x10d : Below w9.heap.size w9 w10.drew := below_drewN x10 1
  have hq : Zi w10.drew (zv true (.slice A1 n1 c1)) (-4) (1 + 1) := HQ.out.step x10d
  have hr : Zi w10.drew (zv false (.slice A2 n2 c2)) 1 (1 + 1) := HR.out.step x10d
  have hp : Zi w10.drew (zv true (.slice A3 n3 c3)) (-4) (1 + 1) := HP.out.step x10d
  have hs : Zi w10.drew (zv true (.slice A4 n4 c4)) (-1) (1 + 1) := HS.out.step x10d
  have hz : Zi w10.drew (zv false (.slice A5 n5 c5)) 0 200 := HZ.out.step x10d
  have B10 := hide (B9.out.trans (x10.mono B9.out.size))
  generalize w9.heap.size = g3 at *
  have p0 : w10.drew.cell? ⟨g1, 0, none⟩ = some (.bool true) := Y1.out.1
  have p1 : w10.drew.cell? ⟨g1, 1, none⟩ = some (.slice A1 n1 c1) := Y1.out.2
  have p2 : w10.drew.cell? ⟨g1 + 1, 0, none⟩ = some (.bool false) := Y2.out.1
  have p3 : w10.drew.cell? ⟨g1 + 1, 1, none⟩ = some (.slice A2 n2 c2) := Y2.out.2
  have p4 : w10.drew.cell? ⟨g2, 0, none⟩ = some (.bool true) := Y3.out.1
  have p5 : w10.drew.cell? ⟨g2, 1, none⟩ = some (.slice A3 n3 c3) := Y3.out.2
  have p6 : w10.drew.cell? ⟨g2 + 1, 0, none⟩ = some (.bool true) := Y4.out.1
  have p7 : w10.drew.cell? ⟨g2 + 1, 1, none⟩ = some (.slice A4 n4 c4) := Y4.out.2
  have p8 : w10.drew.cell? ⟨g3, 0, none⟩ = some (.bool false) := Y5.out.1
  have p9 : w10.drew.cell? ⟨g3, 1, none⟩ = some (.slice A5 n5 c5) := Y5.out.2
  clear x10 x10d y5 Y1 Y2 Y3 Y4 Y5 B9 HQ HR HP HS HZ
  go_region_held3 (fun W => W.cell? ⟨g1, 0, none⟩ = some (.bool true) ∧ W.cell? ⟨g1, 1, none⟩ = some (.slice A1 n1 c1) ∧ W.cell? ⟨g1 + 1, 0, none⟩ = some (.bool false) ∧ W.cell? ⟨g1 + 1, 1, none⟩ = some (.slice A2 n2 c2) ∧ W.cell? ⟨g2, 0, none⟩ = some (.bool true) ∧ W.cell? ⟨g2, 1, none⟩ = some (.slice A3 n3 c3) ∧ W.cell? ⟨g2 + 1, 0, none⟩ = some (.bool true) ∧ W.cell? ⟨g2 + 1, 1, none⟩ = some (.slice A4 n4 c4) ∧ W.cell? ⟨g3, 0, none⟩ = some (.bool false) ∧ W.cell? ⟨g3, 1, none⟩ = some (.slice A5 n5 c5))
    (first | with_reducible exact ⟨p0, p1, p2, p3, p4, p5, p6, p7, p8, p9⟩ | (refine ⟨?_, ?_, ?_, ?_, ?_, ?_, ?_, ?_, ?_, ?_⟩ <;> (repeat (first | (with_reducible assumption) | (with_reducible refine cell_keep ?_ (by with_reducible assumption))))))
    (first
      | (go_at_call 40; refine (qsmall_any _ _ (by omega) (by omega)).mono ?_; rintro e wx ⟨vx, rfl, qx, bx⟩)
      | (go_at_call 31; refine (qto_any (L := 6) (by assumption) (by omega)).mono ?_; rintro e wx ⟨vx, rfl, tx, bx⟩)
      | (go_at_call 29; refine Calls.mono (zsame_i (z := -4) (L := 1 + 1) (M := 6) ?_ ?_) ?_; (focus ((first | with_reducible exact zi_nil _ | (repeat (first | (with_reducible assumption) | (with_reducible refine Zi.step ?_ (by with_reducible assumption))))); done)); (focus ((first | with_reducible exact zi_nil _ | (repeat (first | (with_reducible assumption) | (with_reducible refine Zi.step ?_ (by with_reducible assumption))))); done)); rintro e wx ⟨rfl, bx⟩)
      | (go_at_call 29; refine Calls.mono (zsame_i (z := 1) (L := 1 + 1) (M := 6) ?_ ?_) ?_; (focus ((first | with_reducible exact zi_nil _ | (repeat (first | (with_reducible assumption) | (with_reducible refine Zi.step ?_ (by with_reducible assumption))))); done)); (focus ((first | with_reducible exact zi_nil _ | (repeat (first | (with_reducible assumption) | (with_reducible refine Zi.step ?_ (by with_reducible assumption))))); done)); rintro e wx ⟨rfl, bx⟩)
      | (go_at_call 29; refine Calls.mono (zsame_i (z := -1) (L := 1 + 1) (M := 6) ?_ ?_) ?_; (focus ((first | with_reducible exact zi_nil _ | (repeat (first | (with_reducible assumption) | (with_reducible refine Zi.step ?_ (by with_reducible assumption))))); done)); (focus ((first | with_reducible exact zi_nil _ | (repeat (first | (with_reducible assumption) | (with_reducible refine Zi.step ?_ (by with_reducible assumption))))); done)); rintro e wx ⟨rfl, bx⟩)
      | (go_at_call 29; refine Calls.mono (zsame_i (z := 0) (L := 200) (M := 0) ?_ ?_) ?_; (focus ((first | with_reducible exact zi_nil _ | (repeat (first | (with_reducible assumption) | (with_reducible refine Zi.step ?_ (by with_reducible assumption))))); done)); (focus ((first | with_reducible exact zi_nil _ | (repeat (first | (with_reducible assumption) | (with_reducible refine Zi.step ?_ (by with_reducible assumption))))); done)); rintro e wx ⟨rfl, bx⟩)
      | (go_at_call 38; refine (zof_any _ _ (by omega) (by omega)).mono ?_; rintro e wx ⟨vx, rfl, tx, bx⟩)
      | (go_at_call 44; refine (ztext_any (L := 1) (Zi.za (by assumption)) (by omega)).mono ?_; rw [zt_0]; rintro e wx ⟨rfl, bx⟩))
  all_goals
    have b10d : Below w.heap.size w w10.drew := below_drewN B10.out 1
    have fin : Below w.heap.size w wx := by
      repeat (first | (with_reducible assumption) | (with_reducible refine bel_step ?_ (by with_reducible assumption)))
    have Fin := hide fin
    clear fin
    go_wp2_with fail
    go_ret
    exact ⟨rfl, Fin.out⟩
end Go.Proofs.YtkonakjchimniaaDoor

/-
  The walks of ZintOrder, ZintRests, ZintDigits: true.
-/

namespace Go.Proofs.YtkonakjchimniaaDoor
open Go.RowKit Go.Proofs.YtkonakjchimniaaDoor.Num
set_option linter.unusedVariables false
set_option maxRecDepth 100000

theorem cmpZ_add (a b c : Int) : cmpZ (a + c) (b + c) = cmpZ a b := by unfold cmpZ; split <;> split <;> (try split) <;> (try split) <;> omega
theorem cmpZ_neg (a b : Int) : cmpZ (-b) (-a) = cmpZ a b := by unfold cmpZ; split <;> split <;> (try split) <;> (try split) <;> omega
theorem cmpZ_turn (a b : Int) : cmpZ b a = -cmpZ a b := by unfold cmpZ; split <;> split <;> (try split) <;> (try split) <;> omega
theorem cmpZ_range (a b : Int) : -1 ≤ cmpZ a b ∧ cmpZ a b ≤ 1 := by unfold cmpZ; split <;> (try split) <;> omega
theorem Za.of {w : World} {s : Bool} {u : Value} {x L : Nat} (h : Nw w u x L) : Za w (zv s u) (zi s x) L := ⟨s, u, x, rfl, h, rfl⟩
theorem zneg_a {w : World} {u : Value} {a : Int} {L : Nat} (hu : Za w u a L) (hL : L ≤ 17592186044000) : Calls Tryd.prog 46 #[u] w (ZRet w (-a) L) := by
  obtain ⟨s, u, x, rfl, hu, rfl⟩ := hu
  refine (neg_any hu hL).mono fun e w' h => h.zret ?_
  unfold zi; cases s <;> simp
theorem zsign_a {w : World} {u : Value} {a : Int} {L : Nat} (hu : Za w u a L) (hL : L ≤ 17592186044000) : Calls Tryd.prog 33 #[u] w fun e w' => e = .returned (.int .i64 (zsg a)) ∧ Below w.heap.size w w' := by
  obtain ⟨s, u, x, rfl, hu, rfl⟩ := hu
  rw [← zsgn_zi]
  exact sign_any hu hL

set_option maxHeartbeats 8000000 in
theorem zorder_true (w : World) (s : Bool) (u : Value) (t : Bool) (v : Value) (r : Bool) (q : Value) (x y z : Nat) (hu : Nw w u x 17592186043904) (hv : Nw w v y 17592186043904) (hq : Nw w q z 17592186043904) :
    Calls Tryd.prog 9 #[zv s u, zv t v, zv r q] w fun e w' => e = .returned (.bool true) ∧ Below w.heap.size w w' := by
  obtain ⟨A, n, c, rfl⟩ := hu.slice
  obtain ⟨D, m, d, rfl⟩ := hv.slice
  obtain ⟨F, k, f, rfl⟩ := hq.slice
  obtain ⟨a, ha⟩ : ∃ a, zi s x = a := ⟨_, rfl⟩
  obtain ⟨b, hb⟩ : ∃ b, zi t y = b := ⟨_, rfl⟩
  obtain ⟨g, hg⟩ : ∃ g, zi r z = g := ⟨_, rfl⟩
  have b3 : Below w.heap.size w (((w.alloc (zbox s (.slice A n c))).alloc (zbox t (.slice D m d))).alloc (zbox r (.slice F k f))) := (((Below.refl _ _).alloc (Nat.le_refl _) _).alloc (by simp) _).alloc (by simp; omega) _
  have za : Za w (zv s (.slice A n c)) a 17592186043904 := ha ▸ Za.of hu
  have zb : Za w (zv t (.slice D m d)) b 17592186043904 := hb ▸ Za.of hv
  have zc : Za w (zv r (.slice F k f)) g 17592186043904 := hg ▸ Za.of hq
  have c0 : (((w.alloc (zbox s (.slice A n c))).alloc (zbox t (.slice D m d))).alloc (zbox r (.slice F k f))).cell? ⟨w.heap.size, 0, none⟩ = some (.bool s) := by go_simp
  have c1 : (((w.alloc (zbox s (.slice A n c))).alloc (zbox t (.slice D m d))).alloc (zbox r (.slice F k f))).cell? ⟨w.heap.size, 1, none⟩ = some (.slice A n c) := by go_simp
  have c2 : (((w.alloc (zbox s (.slice A n c))).alloc (zbox t (.slice D m d))).alloc (zbox r (.slice F k f))).cell? ⟨w.heap.size + 1, 0, none⟩ = some (.bool t) := by go_simp
  have c3 : (((w.alloc (zbox s (.slice A n c))).alloc (zbox t (.slice D m d))).alloc (zbox r (.slice F k f))).cell? ⟨w.heap.size + 1, 1, none⟩ = some (.slice D m d) := by go_simp
  have c4 : (((w.alloc (zbox s (.slice A n c))).alloc (zbox t (.slice D m d))).alloc (zbox r (.slice F k f))).cell? ⟨w.heap.size + 1 + 1, 0, none⟩ = some (.bool r) := by go_simp
  have c5 : (((w.alloc (zbox s (.slice A n c))).alloc (zbox t (.slice D m d))).alloc (zbox r (.slice F k f))).cell? ⟨w.heap.size + 1 + 1, 1, none⟩ = some (.slice F k f) := by go_simp
  have ZA := hide (za.step b3)
  have ZB := hide (zb.step b3)
  have ZC := hide (zc.step b3)
  have B := hide b3
  have C := hide (And.intro c0 (And.intro c1 (And.intro c2 (And.intro c3 (And.intro c4 c5)))))
  obtain ⟨o, ho⟩ : ∃ o, Hid (cmpZ a b = o) := ⟨_, hide rfl⟩
  have e1 : Hid (cmpZ (a + g) (b + g) = o) := hide (by rw [cmpZ_add]; exact ho.out)
  have e2 : Hid (cmpZ (-b) (-a) = o) := hide (by rw [cmpZ_neg]; exact ho.out)
  have e3 : Hid (zsg (a - b) = o) := hide (by rw [zsg_sub]; exact ho.out)
  have e4 : Hid (cmpZ b a = -o) := hide (by rw [cmpZ_turn, ho.out])
  obtain ⟨r1, r2⟩ : -1 ≤ o ∧ o ≤ 1 := by rw [← ho.out]; exact cmpZ_range a b
  have oo : (o == o) = true := beq_self_eq_true o
  have EW : Hid (IntKind.i64.wrap (-o) = -o) := hide (IntWalk.i64_in _ (by omega))
  clear hu hv hq ha hb hg za zb zc b3 c0 c1 c2 c3 c4 c5
  go_enter Tryd.func9, Tryd.ntmps9
  go_wp2_with fail
  refine (zspeaks_true _).mono ?_
  rintro e w1 ⟨rfl, b1⟩
  have ZA := hide (ZA.out.step b1)
  have ZB := hide (ZB.out.step b1)
  have ZC := hide (ZC.out.step b1)
  have B := hide (Below.step B.out B.out.size b1)
  have p0 := cell_keep C.out.1 b1
  have p1 := cell_keep C.out.2.1 b1
  have p2 := cell_keep C.out.2.2.1 b1
  have p3 := cell_keep C.out.2.2.2.1 b1
  have p4 := cell_keep C.out.2.2.2.2.1 b1
  have p5 := cell_keep C.out.2.2.2.2.2 b1
  clear b1 C
  go_wp2_with fail
  refine (zcmp_any ZA.out ZB.out (by omega) (by omega)).mono ?_
  rw [ho.out]
  rintro e w2 ⟨rfl, b2⟩
  have b2d : Below w1.heap.size w1 w2.drew := below_drewN b2 1
  have za : Za w2.drew (zv s (.slice A n c)) a 17592186043904 := ZA.out.step b2d
  have zb : Za w2.drew (zv t (.slice D m d)) b 17592186043904 := ZB.out.step b2d
  have zc : Za w2.drew (zv r (.slice F k f)) g 17592186043904 := ZC.out.step b2d
  have p0 : w2.drew.cell? ⟨w.heap.size, 0, none⟩ = some (.bool s) := cell_keep p0 b2d
  have p1 : w2.drew.cell? ⟨w.heap.size, 1, none⟩ = some (.slice A n c) := cell_keep p1 b2d
  have p2 : w2.drew.cell? ⟨w.heap.size + 1, 0, none⟩ = some (.bool t) := cell_keep p2 b2d
  have p3 : w2.drew.cell? ⟨w.heap.size + 1, 1, none⟩ = some (.slice D m d) := cell_keep p3 b2d
  have p4 : w2.drew.cell? ⟨w.heap.size + 1 + 1, 0, none⟩ = some (.bool r) := cell_keep p4 b2d
  have p5 : w2.drew.cell? ⟨w.heap.size + 1 + 1, 1, none⟩ = some (.slice F k f) := cell_keep p5 b2d
  have B : Below w.heap.size w w2.drew := below_drewN (Below.step B.out B.out.size b2) 1
  have B := hide B
  clear ZA ZB ZC b2 b2d ho
  go_wp2_with fail
  go_region_held3 (fun W => W.cell? ⟨w.heap.size, 0, none⟩ = some (.bool s) ∧ W.cell? ⟨w.heap.size, 1, none⟩ = some (.slice A n c) ∧ W.cell? ⟨w.heap.size + 1, 0, none⟩ = some (.bool t) ∧ W.cell? ⟨w.heap.size + 1, 1, none⟩ = some (.slice D m d) ∧ W.cell? ⟨w.heap.size + 1 + 1, 0, none⟩ = some (.bool r) ∧ W.cell? ⟨w.heap.size + 1 + 1, 1, none⟩ = some (.slice F k f))
    (first | with_reducible exact ⟨p0, p1, p2, p3, p4, p5⟩ | (refine ⟨?_, ?_, ?_, ?_, ?_, ?_⟩ <;> (repeat (first | (with_reducible assumption) | (with_reducible refine cell_keep ?_ (by with_reducible assumption))))))
    (first
      | (go_at_call 36; refine Calls.mono (zadd_any (a := a) (b := g) (L := 17592186043904) (M := 17592186043904) (K := 17592186043904) ?_ ?_ (by omega) (by omega) (by omega)) ?_; (focus ((repeat (first | (with_reducible assumption) | (with_reducible refine Za.step ?_ (by with_reducible assumption)))); done)); (focus ((repeat (first | (with_reducible assumption) | (with_reducible refine Za.step ?_ (by with_reducible assumption)))); done)); rintro e wx ⟨vx, rfl, tx, bx⟩; replace tx := Zi.za tx)
      | (go_at_call 36; refine Calls.mono (zadd_any (a := b) (b := g) (L := 17592186043904) (M := 17592186043904) (K := 17592186043904) ?_ ?_ (by omega) (by omega) (by omega)) ?_; (focus ((repeat (first | (with_reducible assumption) | (with_reducible refine Za.step ?_ (by with_reducible assumption)))); done)); (focus ((repeat (first | (with_reducible assumption) | (with_reducible refine Za.step ?_ (by with_reducible assumption)))); done)); rintro e wx ⟨vx, rfl, tx, bx⟩; replace tx := Zi.za tx)
      | (go_at_call 47; refine Calls.mono (zsub_any (a := a) (b := b) (L := 17592186043904) (M := 17592186043904) (K := 17592186043904) ?_ ?_ (by omega) (by omega) (by omega)) ?_; (focus ((repeat (first | (with_reducible assumption) | (with_reducible refine Za.step ?_ (by with_reducible assumption)))); done)); (focus ((repeat (first | (with_reducible assumption) | (with_reducible refine Za.step ?_ (by with_reducible assumption)))); done)); rintro e wx ⟨vx, rfl, tx, bx⟩; replace tx := Zi.za tx)
      | (go_at_call 46; refine Calls.mono (zneg_a (a := a) (L := 17592186043904) ?_ (by omega)) ?_; (focus ((repeat (first | (with_reducible assumption) | (with_reducible refine Za.step ?_ (by with_reducible assumption)))); done)); rintro e wx ⟨vx, rfl, tx, bx⟩; replace tx := Zi.za tx)
      | (go_at_call 46; refine Calls.mono (zneg_a (a := b) (L := 17592186043904) ?_ (by omega)) ?_; (focus ((repeat (first | (with_reducible assumption) | (with_reducible refine Za.step ?_ (by with_reducible assumption)))); done)); rintro e wx ⟨vx, rfl, tx, bx⟩; replace tx := Zi.za tx)
      | (go_at_call 33; refine Calls.mono (zsign_a (a := a - b) (L := 17592186043904 + 1) ?_ (by omega)) ?_; (focus ((repeat (first | (with_reducible assumption) | (with_reducible refine Za.step ?_ (by with_reducible assumption)))); done)); rw [e3.out]; rintro e wx ⟨rfl, bx⟩)
      | (go_at_call 34; refine Calls.mono (zcmp_any (a := a + g) (b := b + g) (L := 17592186043904 + 1) (M := 17592186043904 + 1) ?_ ?_ (by omega) (by omega)) ?_; (focus ((repeat (first | (with_reducible assumption) | (with_reducible refine Za.step ?_ (by with_reducible assumption)))); done)); (focus ((repeat (first | (with_reducible assumption) | (with_reducible refine Za.step ?_ (by with_reducible assumption)))); done)); rw [e1.out]; rintro e wx ⟨rfl, bx⟩)
      | (go_at_call 34; refine Calls.mono (zcmp_any (a := -b) (b := -a) (L := 17592186043904) (M := 17592186043904) ?_ ?_ (by omega) (by omega)) ?_; (focus ((repeat (first | (with_reducible assumption) | (with_reducible refine Za.step ?_ (by with_reducible assumption)))); done)); (focus ((repeat (first | (with_reducible assumption) | (with_reducible refine Za.step ?_ (by with_reducible assumption)))); done)); rw [e2.out]; rintro e wx ⟨rfl, bx⟩)
      | (go_at_call 34; refine Calls.mono (zcmp_any (a := b) (b := a) (L := 17592186043904) (M := 17592186043904) ?_ ?_ (by omega) (by omega)) ?_; (focus ((repeat (first | (with_reducible assumption) | (with_reducible refine Za.step ?_ (by with_reducible assumption)))); done)); (focus ((repeat (first | (with_reducible assumption) | (with_reducible refine Za.step ?_ (by with_reducible assumption)))); done)); rw [e4.out]; rintro e wx ⟨rfl, bx⟩))
  all_goals
    have fin : Below w.heap.size w wx := by
      have B := B.out
      (repeat (first | (with_reducible assumption) | (with_reducible refine bel_step ?_ (by with_reducible assumption))))
    have Fin := hide fin
    clear fin
    go_wp2_with fail
    go_ret
    refine ⟨?_, Fin.out⟩
    show Ending.returned (Value.bool (-o == IntKind.i64.wrap (-o))) = _
    rw [EW.out, beq_self_eq_true]
end Go.Proofs.YtkonakjchimniaaDoor
