
/-
  Vectors: times, Axpy, Scale.
-/
import Derived.Test.YtieicmcbdhaipaaGreatVec5

namespace Go.Proofs.YtieicmcbdhaipaaGreat
open Go.RowKit Go.Proofs.YtieicmcbdhaipaaGreat.Num
set_option linter.unusedVariables false
set_option linter.unusedSimpArgs false
set_option maxRecDepth 100000

theorem made_flat {α : Type} {enc : α → List Value} {k : Nat} (hk : ∀ x, (enc x).length = k) (h0 : 0 < k) (z : α) (n : Nat) : (madeCells (enc z).toArray (n * k)).toList = flat enc (List.replicate n z) := by
  apply List.ext_getElem?
  intro t
  by_cases ht : t < n * k
  · have hdiv : t / k < n := Nat.div_lt_of_lt_mul (by rw [Nat.mul_comm]; exact ht)
    have hmod : t % k < k := Nat.mod_lt _ h0
    have e2 := flat_get hk (List.replicate n z) (t / k) z (by simp [hdiv]) (t % k) hmod
    rw [show t / k * k + t % k = t by rw [Nat.mul_comm]; exact Nat.div_add_mod t k] at e2
    rw [e2]
    simp only [madeCells, Array.toList_map, List.getElem?_map, Array.toList_range, List.getElem?_range ht, Option.map_some]
    have hs : (enc z).toArray.size = k := by simp [hk]
    rw [hs, List.getElem?_eq_getElem (by rw [hk]; exact hmod), getElem!_pos (enc z).toArray (t % k) (by rw [hs]; exact hmod)]
    simp
  · rw [List.getElem?_eq_none (by simp [madeCells]; omega), List.getElem?_eq_none (by rw [flat_len hk]; simp; omega)]
def zx : Tx := ⟨0, ⟨false, (none, 0, 0), (none, 0, 0), 0⟩⟩
theorem made4 (w : World) (B n : Nat) (hB : B ≤ w.heap.size) (hn : n ≤ 100000000) :
    Ow 63 et 4 (w.alloc (.cells (madeCells #[.int .i64 0, .bool false, .slice none 0 0, .slice none 0 0] (n * 4)) 63)) B (.slice (some ⟨w.heap.size, 0, none⟩) n n) (List.replicate n zx) := by
  have h := Ow.lit (B := B) et_len w 63 (List.replicate n zx) (madeCells #[.int .i64 0, .bool false, .slice none 0 0, .slice none 0 0] (n * 4)) (made_flat (enc := et) et_len (by omega) zx n) hB (by simp [maxLen]; omega)
  simpa using h
/-- What the loop of times has made. -/
def Tk (W : World) (B : Nat) (r : Rat) (d : List Tx) (k M : Nat) (cur : List Tx) : Prop := cur.length = d.length ∧ (∀ x ∈ cur.take k, Rg W B x.x M) ∧ tms (cur.take k) = gmul r (tms (d.take k))
theorem Tk.step {W W' : World} {B : Nat} {r : Rat} {d : List Tx} {k M : Nat} {cur : List Tx} (h : Tk W B r d k M cur) (hb : Below W.heap.size W W') : Tk W' B r d k M cur := ⟨h.1, fun x hx => (h.2.1 x hx).step hb, h.2.2⟩
theorem Tk.put {W W' : World} {B : Nat} {r : Rat} {d : List Tx} {k M : Nat} {cur : List Tx} {t : Tx} {z : Rx} {row : Option Nat} (h : Tk W B r d k M cur) (ht : d[k]? = some t) (hz : z.r = r * t.x.r) (rz : Rg W B z M) (hg : W.grownBy W' row) (hn : ∀ g, row = some g → Ot W g) : Tk W' B r d (k + 1) M (cur.set k ⟨t.c, z⟩) := by
  obtain ⟨h1, h2, h3⟩ := h
  have hk := (List.getElem?_eq_some_iff.1 ht).1
  have e : (cur.set k ⟨t.c, z⟩).take (k + 1) = cur.take k ++ [⟨t.c, z⟩] := by
    rw [List.take_succ_eq_append_getElem (by rw [List.length_set, h1]; exact hk), List.take_set_of_le (Nat.le_refl k)]
    simp
  refine ⟨by rw [List.length_set]; exact h1, fun x hx => ?_, ?_⟩
  · rw [e] at hx
    rcases List.mem_append.1 hx with hx | hx
    · exact (h2 x hx).grownT hg hn
    · simp at hx; subst hx; exact rz.grownT hg hn
  · rw [e, tms_append, h3, tms_snoc ht]
    simp [gmul, tms, tm, hz]

theorem make_tm (n : Nat) (hn : n ≤ 100000000) (W : World) : (Instr.makeSlice 47 (.int .i64 (n : Int)) (.int .i64 (n : Int))).run Tryz.prog W = .ok (.slice (some ⟨W.heap.size, 0, none⟩) n n) (W.alloc (.cells (madeCells #[.int .i64 0, .bool false, .slice none 0 0, .slice none 0 0] (n * 4)) 63)) := by
  obtain ⟨i, hi, hz0, hz1, hz2⟩ := info_parts info_tm
  have h := run_make (P := Tryz.prog) W 47 63 i _ Tryz.underlying47 hi hz0 .i64 .i64 (n : Int) (n : Int) (by omega) (Int.le_refl _) (by rw [hz2]; omega) (by omega)
  rw [hz1, Int.toNat_natCast] at h
  exact h
theorem set4_other {W : World} {b g : Nat} {o : Obj} (h : W.heap[b]? = some o) (hne : b ≠ g) (i j k l : Nat) (x y z u : Value) : ((((W.setCell ⟨g, i, none⟩ x).setCell ⟨g, j, none⟩ y).setCell ⟨g, k, none⟩ z).setCell ⟨g, l, none⟩ u).heap[b]? = some o :=
  ((Below.heap_setCell _ ⟨g, l, none⟩ u b hne).trans ((Below.heap_setCell _ ⟨g, k, none⟩ z b hne).trans ((Below.heap_setCell _ ⟨g, j, none⟩ y b hne).trans (Below.heap_setCell _ ⟨g, i, none⟩ x b hne)))).trans h
theorem two_boxes {W : World} {b h : Nat} {a0 a1 a2 a3 c0 c1 c2 : Value} {T U : TypeId} (h1 : W.heap[b]? = some (.cells #[a0, a1, a2, a3] T (0, 0))) (h2 : W.heap[h]? = some (.cells #[c0, c1, c2] U (0, 0))) :
    W.cell? ⟨b, 0, none⟩ = some a0 ∧ W.cell? ⟨b, 1, none⟩ = some a1 ∧ W.cell? ⟨b, 2, none⟩ = some a2 ∧ W.cell? ⟨b, 3, none⟩ = some a3 ∧ W.cell? ⟨h, 0, none⟩ = some c0 ∧ W.cell? ⟨h, 1, none⟩ = some c1 ∧ W.cell? ⟨h, 2, none⟩ = some c2 :=
  ⟨cell_of_row W b 0 _ _ _ h1, cell_of_row W b 1 _ _ _ h1, cell_of_row W b 2 _ _ _ h1, cell_of_row W b 3 _ _ _ h1, cell_of_row W h 0 _ _ _ h2, cell_of_row W h 1 _ _ _ h2, cell_of_row W h 2 _ _ _ h2⟩
theorem keep_obj {W W' : World} {b : Nat} {o : Obj} (h : W.heap[b]? = some o) (hb : Below W.heap.size W W') : W'.heap[b]? = some o := (hb.block b (Array.getElem?_eq_some_iff.1 h).1).trans h
theorem below_put4 {B : Nat} {w W : World} {g : Nat} (h : Below B w W) (hg : B ≤ g) (i j k l : Nat) (a b c e : Value) : Below B w ((((W.setCell ⟨g, i, none⟩ a).setCell ⟨g, j, none⟩ b).setCell ⟨g, k, none⟩ c).setCell ⟨g, l, none⟩ e) :=
  (((h.setCell (p := ⟨g, i, none⟩) hg a).setCell (p := ⟨g, j, none⟩) hg b).setCell (p := ⟨g, k, none⟩) hg c).setCell (p := ⟨g, l, none⟩) hg e

set_option maxHeartbeats 8000000 in
theorem times_t {w : World} {s : Bool} {A0 D0 : Option Addr} {n0 c0' m0 d0 : Nat} {r : Rat} {K : Nat} {v : Value} {d : List Tx} {L : Nat} (ha : Ra w (rv s (.slice A0 n0 c0') (.slice D0 m0 d0)) r K) (hv : Tv w v d L) (hn : d.length ≤ 100000) (h1 : 1 ≤ L) (hL : L ≤ 1000000) (h2 : 1 ≤ K) (hK : K ≤ 1000000) :
    Calls Tryz.prog 121 #[rv s (.slice A0 n0 c0') (.slice D0 m0 d0), v] w fun e w' => ∃ v' d', e = .returned v' ∧ Tg w' w.heap.size v' d' (K + L) ∧ tms d' = gmul r (tms d) ∧ Below w.heap.size w w' := by
  obtain ⟨A, c, e1, hc1, hc2, hc3⟩ := id hv.1
  have b0 := (Below.refl w.heap.size w).alloc (Nat.le_refl _) (rbox s (.slice A0 n0 c0') (.slice D0 m0 d0))
  have Q0 := hide (Bq.new w s (.slice A0 n0 c0') (.slice D0 m0 d0))
  have HA := hide ha
  have HV := hide hv
  obtain ⟨n, hlen⟩ : ∃ n, n = d.length := ⟨_, rfl⟩
  rw [← hlen] at e1 hn hc1
  subst e1
  have HN := hide hlen
  have hnx : n ≤ 9223372036854775807 := by omega
  have hnz : (0 : Int) ≤ (n : Int) := by omega
  clear hv ha hc3 hlen
  go_enter Tryz.func121, Tryz.ntmps121
  have hmk := make_tm n (by omega) (w.alloc (rbox s (.slice A0 n0 c0') (.slice D0 m0 d0)))
  have O1 := hide (made4 (w.alloc (rbox s (.slice A0 n0 c0') (.slice D0 m0 d0))) w.heap.size n b0.size (by omega))
  generalize madeCells #[.int .i64 0, .bool false, .slice none 0 0, .slice none 0 0] (n * 4) = Z at *
  go_wp2_with fail
  have b1 := (Below.refl _ _).alloc (Nat.le_refl _) (.cells Z 63) (w := w.alloc (rbox s (.slice A0 n0 c0') (.slice D0 m0 d0)))
  have hgs : (w.alloc (rbox s (.slice A0 n0 c0') (.slice D0 m0 d0))).heap.size = w.heap.size + 1 := by simp
  replace Q0 := hide (Q0.out.step b1)
  have B1 := hide (Below.step b0 b0.size b1)
  rw [hgs] at O1
  clear b0 b1 hgs hmk
  generalize ((w.alloc (rbox s (.slice A0 n0 c0') (.slice D0 m0 d0))).alloc (.cells Z 63)) = w1 at *
  have T1 := hide (show Tk w1 w.heap.size r d 0 (K + L) (List.replicate n zx) from ⟨by simp [HN.out], fun x hx => by simp at hx, by simp [tms, gmul]⟩)
  go_loopw [13] (fun iv wr => ∃ (k : Nat) (cur : List Tx), k ≤ n ∧ iv = .int .i64 (k : Int) ∧ Hid (Below w.heap.size w wr) ∧ Bq wr w.heap.size s (.slice A0 n0 c0') (.slice D0 m0 d0) ∧ Hid (Ow 63 et 4 wr w.heap.size (.slice (some ⟨w.heap.size + 1, 0, none⟩) n n) cur) ∧ Hid (Tk wr w.heap.size r d k (K + L) cur)) (fun iv _ => n - (intOf iv).toNat)
  case atStart => exact ⟨0, _, Nat.zero_le _, rfl, B1, Q0.out, O1, T1⟩
  case round =>
    obtain ⟨k, cur, hk, rfl, B, Qb, O, T⟩ := hrel
    by_cases hlt : k < n
    · obtain ⟨t, ht⟩ := len_of (d := d) (k := k) (by rw [← HN.out]; exact hlt)
      have HX := hide ((HV.out.2 t (List.mem_of_getElem? ht)).step B.out)
      obtain ⟨b, off, rfl, hb, hc⟩ := (HV.out.1.step B.out).get ht
      have c0 := hc 0 _ rfl
      have c1 := hc 1 _ rfl
      have c2 := hc 2 _ rfl
      have c3 := hc 3 _ rfl
      rw [Nat.add_zero] at c0
      have l0 : (0 : Int) ≤ (k : Int) := by omega
      have l1 : (k : Int) < (n : Int) := by omega
      have b8 := (Below.refl wr.heap.size wr).alloc (Nat.le_refl _) (.cells #[.int .i64 t.c, .bool t.x.s, sv t.x.u, sv t.x.t] 63)
      have b8 := b8.drew
      have X8 := hide (HX.out.step b8)
      have A8 := hide ((HA.out.step B.out).step b8)
      have B8 := hide (Below.step B.out B.out.size b8)
      have Q8 := hide (Qb.step b8)
      have O8 := hide (O.out.step b8)
      have T8 := hide (T.out.step b8)
      have E8 := hide (heap_alloc_new wr (.cells #[.int .i64 t.c, .bool t.x.s, sv t.x.u, sv t.x.t] 63))
      have HT := hide ht
      have hgl : w.heap.size + 1 < wr.heap.size := (O.out.lt rfl).2
      clear hc hb ht b8 B T HX O Qb
      go_wp2_with fail
      generalize (wr.alloc (Obj.cells #[Value.int IntKind.i64 t.c, Value.bool t.x.s, sv t.x.u, sv t.x.t] 63)) = w5 at *
      generalize wr.heap.size = gb at *
      have E9 := hide (show w5.drew.heap[gb]? = _ from E8.out)
      have bxs := two_boxes E9.out Q8.out
      have hcl : k < cur.length := by rw [T8.out.1, ← HN.out]; exact hlt
      obtain ⟨y, hy⟩ := len_of hcl
      have HY := hide hy
      clear hcl hy E8
      go_region_held3 (fun W => W.cell? ⟨gb, 0, none⟩ = some (.int .i64 t.c) ∧ W.cell? ⟨gb, 1, none⟩ = some (.bool t.x.s) ∧ W.cell? ⟨gb, 2, none⟩ = some (sv t.x.u) ∧ W.cell? ⟨gb, 3, none⟩ = some (sv t.x.t) ∧ W.cell? ⟨w.heap.size, 0, none⟩ = some (.bool s) ∧ W.cell? ⟨w.heap.size, 1, none⟩ = some (.slice A0 n0 c0') ∧ W.cell? ⟨w.heap.size, 2, none⟩ = some (.slice D0 m0 d0))
        (first | with_reducible exact bxs | with_reducible exact bx7 | exact bx9)
        (first
          | (go_at_call 23; refine Calls.mono (mul_g A8.out X8.out h2 h1 (by omega) (by omega)) ?_; rintro e wx ⟨z, rfl, hz, rz, bx⟩; have E7 := hide (keep_obj E9.out bx); have Q7 := hide (Q8.out.step bx); have C7 := hide (Below.step B8.out B8.out.size bx); have O7 := hide (O8.out.step bx); obtain ⟨q0, q1, q2, q3⟩ := O7.out.cells HY.out; have f0 := O7.out.frozen rfl (k * 4); have f1 := O7.out.frozen rfl (k * 4 + 1); have f2 := O7.out.frozen rfl (k * 4 + 2); have f3 := O7.out.frozen rfl (k * 4 + 3); have Z7 := hide (rz.mono B8.out.size); have T7 := hide (T8.out.step bx); have H7 := hide hz; have bx7 := two_boxes E7.out Q7.out; have bx9 := two_boxes (set4_other E7.out (g := w.heap.size + 1) (by omega) (k * 4) (k * 4 + 1) (k * 4 + 2) (k * 4 + 3) (.int .i64 t.c) (.bool z.s) (sv z.u) (sv z.t)) (set4_other (show wx.heap[w.heap.size]? = _ from Q7.out) (g := w.heap.size + 1) (by omega) (k * 4) (k * 4 + 1) (k * 4 + 2) (k * 4 + 3) (.int .i64 t.c) (.bool z.s) (sv z.u) (sv z.t)); clear rz hz bx))
      have BF := hide (below_put4 C7.out (show w.heap.size ≤ w.heap.size + 1 by omega) (k * 4) (k * 4 + 1) (k * 4 + 2) (k * 4 + 3) (.int .i64 t.c) (.bool z.s) (sv z.u) (sv z.t))
      have QF := hide (show Bq _ w.heap.size s (.slice A0 n0 c0') (.slice D0 m0 d0) from set4_other (show wx.heap[w.heap.size]? = _ from Q7.out) (g := w.heap.size + 1) (by omega) (k * 4) (k * 4 + 1) (k * 4 + 2) (k * 4 + 3) (.int .i64 t.c) (.bool z.s) (sv z.u) (sv z.t))
      have OF := hide (O7.out.put4 (i := k) (List.getElem?_eq_some_iff.1 HY.out).1 ⟨t.c, z⟩)
      have TF := hide (T7.out.put (z := z) HT.out H7.out Z7.out (only_put4 (only_refl wx (some (w.heap.size + 1))) (k * 4) (k * 4 + 1) (k * 4 + 2) (k * 4 + 3) (.int .i64 t.c) (.bool z.s) (sv z.u) (sv z.t)) (fun g e => O7.out.ot g (by rw [← e]; rfl)))
      clear bxs bx7 bx9 q0 q1 q2 q3 f0 f1 f2 f3 E7 Q7 C7 O7 T7 X8 A8 B8 Q8 O8 T8 E9 c0 c1 c2 c3
      go_wp2_with fail
      exact ⟨⟨k + 1, _, by omega, by go_num, BF, QF.out, OF, TF⟩, by simp [intOf]; omega⟩
    · obtain rfl : k = n := by omega
      have F1 := hide (show Tg wr w.heap.size (.slice (some ⟨w.heap.size + 1, 0, none⟩) k k) cur (K + L) from ⟨O.out, fun x hx => T.out.2.1 x (by rw [List.take_of_length_le (by rw [T.out.1, ← HN.out]; exact Nat.le_refl _)]; exact hx)⟩)
      have F2 := hide (show tms cur = gmul r (tms d) by
        have h := T.out.2.2
        rw [List.take_of_length_le (by rw [T.out.1, ← HN.out]; exact Nat.le_refl _), List.take_of_length_le (by rw [← HN.out]; exact Nat.le_refl _)] at h
        exact h)
      have F3 := hide B.out
      clear O T Qb B
      go_wp2_with fail
      go_ret
      exact ⟨_, _, rfl, F1.out, F2.out, F3.out⟩

/-- The one form of a vector that tells f of each place. -/
def VRet (w : World) (f : Int → Rat) (N M : Nat) (e : Ending) (w' : World) : Prop :=
  ∃ v' d', e = .returned v' ∧ Tg w' w.heap.size v' d' M ∧ Fm (tms d') ∧ (∀ c, 0 ≤ c → gsum (tms d') c = f c) ∧ d'.length ≤ N ∧ Below w.heap.size w w'
theorem make_v {w : World} {v : Value} {d : List Tx} {L : Nat} (hv : Tv w v d L) (hn : d.length ≤ 100000) (h1 : 1 ≤ L) (hL : L ≤ 1000000) :
    Calls Tryz.prog 41 #[v] w (VRet w (fun c => gsum (tms d) c) d.length (d.length * (L + 1) + 1)) := (make_t hv hn h1 hL).mono fun e w' ⟨v', d', h1, h2, h3, h4, h5, h6⟩ => ⟨v', d', h1, h2, h3, h4, h5, h6⟩
theorem VRet.later {w w1 : World} {f g : Int → Rat} {N N' M M' : Nat} {e : Ending} {w' : World} (h : VRet w1 f N M e w') (hb : Below w.heap.size w w1) (hf : ∀ c, 0 ≤ c → f c = g c) (hN : N ≤ N') (hM : M ≤ M') : VRet w g N' M' e w' := by
  obtain ⟨v', d', h1, h2, h3, h4, h5, h6⟩ := h
  exact ⟨v', d', h1, (h2.mono hb.size).more hM, h3, fun c hc => (h4 c hc).trans (hf c hc), Nat.le_trans h5 hN, hb.trans (h6.mono hb.size)⟩

set_option maxHeartbeats 4000000 in
theorem scale_t {w : World} {s : Bool} {A0 D0 : Option Addr} {n0 c0' m0 d0 : Nat} {r : Rat} {K : Nat} {v : Value} {d : List Tx} {L : Nat} (ha : Ra w (rv s (.slice A0 n0 c0') (.slice D0 m0 d0)) r K) (hv : Tv w v d L) (hn : d.length ≤ 100000) (h1 : 1 ≤ L) (hL : L ≤ 500000) (h2 : 1 ≤ K) (hK : K ≤ 500000) :
    Calls Tryz.prog 49 #[rv s (.slice A0 n0 c0') (.slice D0 m0 d0), v] w (VRet w (fun c => r * gsum (tms d) c) d.length (d.length * (K + L + 1) + 1)) := by
  have hvs : ∃ A n c, v = .slice A n c := by
    obtain ⟨A, c, rfl, _⟩ := hv.1
    exact ⟨_, _, _, rfl⟩
  obtain ⟨A, n, c, rfl⟩ := hvs
  have b0 := (Below.refl w.heap.size w).alloc (Nat.le_refl _) (rbox s (.slice A0 n0 c0') (.slice D0 m0 d0))
  have HT := hide (times_t (ha.step b0) (hv.step b0) hn h1 (by omega) h2 (by omega))
  have B0 := hide b0
  have DN := hide hn
  clear hv ha b0 hn
  go_enter Tryz.func49, Tryz.ntmps49
  go_wp2_with fail
  refine HT.out.mono ?_
  rintro e w1 ⟨v1, d1, rfl, t1, e1, b1⟩
  have hl : d1.length = d.length := by have := congrArg List.length e1; simpa [tms, gmul] using this
  have HM := hide (make_v t1.tv (by have := DN.out; omega) (by omega) (by omega))
  have B1 := hide (Below.step B0.out B0.out.size b1)
  have hg : ∀ c, 0 ≤ c → gsum (tms d1) c = r * gsum (tms d) c := fun c _ => by rw [e1, gsum_mul]
  have hvs : ∃ A n c, v1 = .slice A n c := by
    rcases t1.1.form with ⟨rfl, _⟩ | ⟨g, cap, cur, rfl, _⟩
    · exact ⟨_, _, _, rfl⟩
    · exact ⟨_, _, _, rfl⟩
  obtain ⟨A2, n2, c2, rfl⟩ := hvs
  rw [hl] at HM
  clear t1 e1 b1 hl HT B0
  go_wp2_with fail
  refine HM.out.mono ?_
  rintro e w2 h
  have F := hide (h.later B1.out hg (Nat.le_refl _) (Nat.le_refl _))
  obtain ⟨v', d', rfl, -⟩ := h
  clear HM
  go_wp2_with fail
  go_ret
  exact F.out

end Go.Proofs.YtieicmcbdhaipaaGreat
