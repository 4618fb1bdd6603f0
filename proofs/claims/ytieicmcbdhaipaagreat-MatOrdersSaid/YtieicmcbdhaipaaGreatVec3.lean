/-
  Lists of terms: written into, parts struck out, sorted.
-/
import Derived.Test.YtieicmcbdhaipaaGreatVec2

namespace Go.Proofs.YtieicmcbdhaipaaGreat
open Go.RowKit Go.Proofs.YtieicmcbdhaipaaGreat.Num
set_option linter.unusedVariables false
set_option linter.unusedSimpArgs false
set_option maxRecDepth 100000

theorem flat_set4 : ∀ (d : List Tx) (i : Nat) (x : Tx), i < d.length → ((((flat et d).set (i * 4) (.int .i64 x.c)).set (i * 4 + 1) (.bool x.x.s)).set (i * 4 + 2) (sv x.x.u)).set (i * 4 + 3) (sv x.x.t) = flat et (d.set i x)
  | [], i, x, h => by simp at h
  | y :: d, 0, x, _ => by simp [flat, et]
  | y :: d, i + 1, x, h => by
    have ih := flat_set4 d i x (by simpa using h)
    rw [List.set_cons_succ, flat, flat, ← ih]
    simp only [et, List.cons_append, List.nil_append, show (i + 1) * 4 = i * 4 + 1 + 1 + 1 + 1 by omega, show i * 4 + 1 + 1 + 1 + 1 + 1 = i * 4 + 1 + 1 + 1 + 1 + 1 from rfl, List.set_cons_succ, show i * 4 + 1 + 1 + 1 + 1 + 2 = i * 4 + 2 + 1 + 1 + 1 + 1 by omega, show i * 4 + 1 + 1 + 1 + 1 + 3 = i * 4 + 3 + 1 + 1 + 1 + 1 by omega]
theorem flat_set3 : ∀ (d : List Tx) (i : Nat) (y : Tx) (x : Rx), d[i]? = some y → (((flat et d).set (i * 4 + 1) (.bool x.s)).set (i * 4 + 2) (sv x.u)).set (i * 4 + 3) (sv x.t) = flat et (d.set i ⟨y.c, x⟩)
  | [], i, y, x, h => by simp at h
  | z :: d, 0, y, x, h => by simp at h; subst h; simp [flat, et]
  | z :: d, i + 1, y, x, h => by
    have ih := flat_set3 d i y x (by simpa using h)
    rw [List.set_cons_succ, flat, flat, ← ih]
    simp only [et, List.cons_append, List.nil_append, show (i + 1) * 4 + 1 = i * 4 + 1 + 1 + 1 + 1 + 1 by omega, List.set_cons_succ, show (i + 1) * 4 + 2 = i * 4 + 2 + 1 + 1 + 1 + 1 by omega, show (i + 1) * 4 + 3 = i * 4 + 3 + 1 + 1 + 1 + 1 by omega]
theorem own_len {W : World} {B g n c : Nat} {d : List Tx} (h : Ow 63 et 4 W B (.slice (some ⟨g, 0, none⟩) n c) d) : n = d.length := by
  rcases h.form with ⟨e, _⟩ | ⟨g', cap, cur, e, _⟩
  · cases e
  · injection e
theorem Ow.put4 {W : World} {B g n c i : Nat} {d : List Tx} (h : Ow 63 et 4 W B (.slice (some ⟨g, 0, none⟩) n c) d) (hi : i < d.length) (x : Tx) :
    Ow 63 et 4 ((((W.setCell ⟨g, i * 4, none⟩ (.int .i64 x.c)).setCell ⟨g, i * 4 + 1, none⟩ (.bool x.x.s)).setCell ⟨g, i * 4 + 2, none⟩ (sv x.x.u)).setCell ⟨g, i * 4 + 3, none⟩ (sv x.x.t)) B (.slice (some ⟨g, 0, none⟩) n c) (d.set i x) := by
  have hn := own_len h
  subst hn
  have h1 := World.ownsRow.stored (World.ownsRow.stored (World.ownsRow.stored (World.ownsRow.stored (show W.ownsRow B _ 4 _ d.length _ from h) (i * 4) (.int .i64 x.c)).1 (i * 4 + 1) (.bool x.x.s)).1 (i * 4 + 2) (sv x.x.u)).1 (i * 4 + 3) (sv x.x.t)
  have h2 := h1.1
  rw [flat_set4 d i x hi] at h2
  unfold Ow
  rw [List.length_set]
  exact h2
theorem Ow.put3 {W : World} {B g n c i : Nat} {d : List Tx} {y : Tx} (h : Ow 63 et 4 W B (.slice (some ⟨g, 0, none⟩) n c) d) (hi : d[i]? = some y) (x : Rx) :
    Ow 63 et 4 (((W.setCell ⟨g, i * 4 + 1, none⟩ (.bool x.s)).setCell ⟨g, i * 4 + 2, none⟩ (sv x.u)).setCell ⟨g, i * 4 + 3, none⟩ (sv x.t)) B (.slice (some ⟨g, 0, none⟩) n c) (d.set i ⟨y.c, x⟩) := by
  have hn := own_len h
  subst hn
  have h1 := World.ownsRow.stored (World.ownsRow.stored (World.ownsRow.stored (show W.ownsRow B _ 4 _ d.length _ from h) (i * 4 + 1) (.bool x.s)).1 (i * 4 + 2) (sv x.u)).1 (i * 4 + 3) (sv x.t)
  have h2 := h1.1
  rw [flat_set3 d i y x hi] at h2
  unfold Ow
  rw [List.length_set]
  exact h2
theorem Ow.cells {W : World} {B g n c i : Nat} {d : List Tx} {x : Tx} (h : Ow 63 et 4 W B (.slice (some ⟨g, 0, none⟩) n c) d) (hi : d[i]? = some x) :
    W.cell? ⟨g, i * 4, none⟩ = some (.int .i64 x.c) ∧ W.cell? ⟨g, i * 4 + 1, none⟩ = some (.bool x.x.s) ∧ W.cell? ⟨g, i * 4 + 2, none⟩ = some (sv x.x.u) ∧ W.cell? ⟨g, i * 4 + 3, none⟩ = some (sv x.x.t) := by
  obtain ⟨b, off, e, hb, hc⟩ := (h.rl et_len).get hi
  injection e with e
  injection e with e1 e2
  subst e1 e2
  have c0 := hc 0 _ rfl
  have c1 := hc 1 _ rfl
  have c2 := hc 2 _ rfl
  have c3 := hc 3 _ rfl
  rw [Nat.zero_add] at c0 c1 c2 c3
  exact ⟨c0, c1, c2, c3⟩
theorem only_put4 {w W : World} {g : Nat} (h : w.grownBy W (some g)) (i j k l : Nat) (a b c e : Value) : w.grownBy ((((W.setCell ⟨g, i, none⟩ a).setCell ⟨g, j, none⟩ b).setCell ⟨g, k, none⟩ c).setCell ⟨g, l, none⟩ e) (some g) :=
  only_set (p := ⟨g, l, none⟩) (only_set (p := ⟨g, k, none⟩) (only_set (p := ⟨g, j, none⟩) (only_set (p := ⟨g, i, none⟩) h rfl a) rfl b) rfl c) rfl e
theorem setCells_block (b : Nat) : ∀ (vs : List Value) (o : Nat) (w : World) (cs : Array Value) (T : TypeId), w.heap[b]? = some (.cells cs T (0, 0)) →
    ∃ cs', (w.setCells b o vs).heap[b]? = some (.cells cs' T (0, 0)) ∧ cs'.size = cs.size ∧ (∀ j, j < o → cs'[j]? = cs[j]?) ∧ w.grownBy (w.setCells b o vs) (some b)
  | [], o, w, cs, T, h => ⟨cs, h, rfl, fun _ _ => rfl, only_refl w _⟩
  | v :: r, o, w, cs, T, h => by
    obtain ⟨cs', h1, h2, h3, h4⟩ := setCells_block b r (o + 1) (w.setCell ⟨b, o, none⟩ v) _ T (heap_setCell_same w b o cs T v h)
    refine ⟨cs', h1, by rw [h2]; simp, fun j hj => ?_, only_trans (only_set (p := ⟨b, o, none⟩) (only_refl w (some b)) rfl v) h4⟩
    rw [h3 j (by omega), Array.getElem?_setIfInBounds, if_neg (by omega)]
theorem run_clearT {w : World} {B g n c i : Nat} {d : List Tx} (h : Ow 63 et 4 w B (.slice (some ⟨g, 0, none⟩) n c) d) (hi : i < n) :
    ∃ w9, (∀ ty, (Builtin.clear_ #[47] ty #[.slice (some ⟨g, i * 4, none⟩) (n - i) (c - i)]).run Tryz.prog w = .ok (.tuple #[]) w9) ∧ w.grownBy w9 (some g) ∧ Ow 63 et 4 w9 B (.slice (some ⟨g, 0, none⟩) i c) (d.take i) := by
  have hn := own_len h
  subst hn
  rcases h.form with ⟨e, _⟩ | ⟨g', cap, cur, e, hB, hlt, hh, h1, h2, h3, h4⟩
  · cases e
  · cases e
    have hcap : d.length * 4 ≤ cur.size := by rw [h3]; omega
    obtain ⟨cs', k1, k2, k3, k4⟩ := setCells_block g ((Builtin.zeroCells (Value.agg #[.int .i64 0, .bool false, .slice none 0 0, .slice none 0 0]).cells (d.length - i)).toList) (i * 4) w cur _ hh
    have hlen : ((Builtin.zeroCells (Value.agg #[.int .i64 0, .bool false, .slice none 0 0, .slice none 0 0]).cells (d.length - i)).toList).length = (d.length - i) * 4 := by simp [Builtin.zeroCells, Value.cells]
    refine ⟨_, fun ty => ?_, k4, ?_⟩
    · have hz : (zeroValue 63).run Tryz.prog w = .ok (.agg #[.int .i64 0, .bool false, .slice none 0 0, .slice none 0 0]) w := by rfl
      have hst := run_storeCells_cells (P := Tryz.prog) g (i * 4) ((Builtin.zeroCells (Value.agg #[.int .i64 0, .bool false, .slice none 0 0, .slice none 0 0]).cells (d.length - i)).toList) 0 w
        (fun j hj => by
          rw [hlen] at hj
          rw [cell_of_row w g _ cur _ (0, 0) hh, Nat.add_zero, Array.getElem?_eq_getElem (by omega)]
          rfl)
        (fun j hj => frozen_of_row w g _ cur _ hh)
        (fun v hv => by
          simp [Builtin.zeroCells, Value.cells] at hv
          obtain ⟨a, ha, rfl⟩ := hv
          have : a % 4 < 4 := Nat.mod_lt _ (by omega)
          generalize a % 4 = m at this
          match m, this with
          | 0, _ => rfl
          | 1, _ => rfl
          | 2, _ => rfl
          | 3, _ => rfl)
      rw [Nat.add_zero] at hst
      obtain ⟨m, hm⟩ : ∃ m, d.length - i = m + 1 := ⟨d.length - i - 1, by omega⟩
      rw [hm] at hst ⊢
      simp [Builtin.clear_, run_underlying Tryz.underlying47, hz, hst]
    · refine ⟨by rw [flat_len et_len], .inr ⟨g, c, cs', by rw [List.length_take, Nat.min_eq_left (by omega)], hB, k1, by rw [List.length_take, Nat.min_eq_left (by omega)]; omega, h2, by rw [k2, h3], ?_⟩⟩
      apply List.ext_getElem?
      intro t
      rw [List.getElem?_take, List.length_take, Nat.min_eq_left (by omega)]
      by_cases ht : t < i * 4
      · rw [if_pos ht, Array.getElem?_toList, k3 t ht]
        have e5 : flat et d = flat et (d.take i) ++ flat et (d.drop i) := by rw [← flat_append, List.take_append_drop]
        have e6 : (flat et d)[t]? = cur[t]? := by rw [← h4, List.getElem?_take, if_pos (by omega), Array.getElem?_toList]
        rw [← e6, e5, List.getElem?_append_left (by rw [flat_len et_len, List.length_take, Nat.min_eq_left (by omega)]; exact ht)]
      · rw [if_neg ht, List.getElem?_eq_none (by rw [flat_len et_len, List.length_take, Nat.min_eq_left (by omega)]; omega)]

/-! ### Parts struck out -/
/-- What the loop of DeleteFunc keeps. -/
def Kp (p : Tx → Bool) (d : List Tx) (i j : Nat) (cur : List Tx) : Prop := cur.length = d.length ∧ cur.take i = (d.take j).filter (fun x => !p x) ∧ ∀ m, j ≤ m → cur[m]? = d[m]?
theorem filter_snoc (p : Tx → Bool) {d : List Tx} {j : Nat} {x : Tx} (hx : d[j]? = some x) : (d.take (j + 1)).filter (fun x => !p x) = (d.take j).filter (fun x => !p x) ++ if p x then [] else [x] := by
  have hk := (List.getElem?_eq_some_iff.1 hx).1
  have e : d[j] = x := (List.getElem?_eq_some_iff.1 hx).2
  rw [List.take_succ_eq_append_getElem hk, List.filter_append, e]
  cases h : p x <;> simp [h]
theorem Kp.start {p : Tx → Bool} {d : List Tx} {k : Nat} {x : Tx} (hx : d[k]? = some x) (h0 : ∀ j y, j < k → d[j]? = some y → p y = false) (h1 : p x = true) : Kp p d k (k + 1) d := by
  refine ⟨rfl, ?_, fun _ _ => rfl⟩
  rw [filter_snoc p hx, h1]
  simp only [if_true, List.append_nil]
  symm
  rw [List.filter_eq_self]
  intro y hy
  obtain ⟨j, hj, e⟩ := List.getElem_of_mem hy
  have hj2 : j < k := by rw [List.length_take] at hj; omega
  have := h0 j y hj2 (by rw [List.getElem_take] at e; rw [← e]; exact List.getElem?_eq_getElem _)
  simp [this]
theorem Kp.lt {p : Tx → Bool} {d : List Tx} {i j : Nat} {cur : List Tx} (h : Kp p d i j cur) (hi : i ≤ d.length) : ((d.take j).filter (fun x => !p x)).length = i := by rw [← h.2.1, List.length_take, h.1]; omega
theorem Kp.keep {p : Tx → Bool} {d : List Tx} {i j : Nat} {cur : List Tx} {x : Tx} (h : Kp p d i j cur) (hij : i < j) (hx : d[j]? = some x) (hp : p x = false) : Kp p d (i + 1) (j + 1) (cur.set i x) := by
  have hj := (List.getElem?_eq_some_iff.1 hx).1
  refine ⟨by rw [List.length_set]; exact h.1, ?_, fun m hm => ?_⟩
  · rw [filter_snoc p hx, hp, ← h.2.1]
    have hl : i < (cur.set i x).length := by rw [List.length_set, h.1]; omega
    rw [List.take_succ_eq_append_getElem hl, List.take_set_of_le (Nat.le_refl i)]
    simp
  · rw [List.getElem?_set_ne (by omega)]
    exact h.2.2 m (by omega)
theorem Kp.skip {p : Tx → Bool} {d : List Tx} {i j : Nat} {cur : List Tx} {x : Tx} (h : Kp p d i j cur) (hx : d[j]? = some x) (hp : p x = true) : Kp p d i (j + 1) cur := by
  refine ⟨h.1, ?_, fun m hm => h.2.2 m (by omega)⟩
  rw [filter_snoc p hx, hp, h.2.1]
  simp

set_option maxHeartbeats 4000000 in
theorem delete_f {g0 : FuncId} {w : World} {B : Nat} {v : Value} {d : List Tx} (p : Tx → Bool) (eg : ∀ args w, (callFunc g0 args).run Tryz.prog w = .ok (.enter g0 args) w) (hv : Ow 63 et 4 w B v d) (hn : d.length ≤ 100000000)
    (hg : ∀ W, w.grownBy W v.ownBlock → ∀ x ∈ d, Calls Tryz.prog g0 #[.agg (et x).toArray] W fun e W' => e = .returned (.bool (p x)) ∧ Below W.heap.size W W') :
    Calls Tryz.prog 118 #[v, .func (.func g0) #[] #[]] w fun e w' => ∃ v', e = .returned v' ∧ Ow 63 et 4 w' B v' (d.filter fun x => !p x) ∧ w.grownBy w' v.ownBlock := by
  have IX := hide (index_f p eg (hv.rl et_len) (fun W hb => hg W (only_below (only_refl w _) hb (Nat.le_refl _))))
  have HG := hide hg
  have HV := hide hv
  have hvs : ∃ A n c, v = .slice A n c := by
    rcases hv.form with ⟨rfl, _⟩ | ⟨g, cap, cur, rfl, _⟩
    · exact ⟨_, _, _, rfl⟩
    · exact ⟨_, _, _, rfl⟩
  obtain ⟨A, n, c, rfl⟩ := hvs
  clear hg hv
  go_enter Tryz.func118, Tryz.ntmps118
  go_wp2_with fail
  refine IX.out.mono ?_
  rintro e w1 ⟨b1, ⟨k, hk, rfl, hlow, hhit⟩ | ⟨rfl, hnone⟩⟩
  · rcases HV.out.form with ⟨_, rfl⟩ | ⟨g, cap, cur0, e, _, _, _, hcap, _⟩
    · simp at hk
    · injection e with e1 e2 e3
      subst e1 e2 e3
      obtain ⟨x, hx⟩ := len_of hk
      have K0 := hide (Kp.start hx hlow (hhit x hx))
      have O1 := hide (HV.out.step b1)
      have G1 := hide (only_below (only_refl w (some g)) b1 (Nat.le_refl _))
      obtain ⟨n, hlen⟩ : ∃ n, n = d.length := ⟨_, rfl⟩
      rw [← hlen] at O1 hk hn hcap ⊢
      rw [← hlen] at HG HV
      have HN := hide hlen
      have t1 : (((k : Nat) : Int) == -1) = false := beq_eq_false_iff_ne.2 (by omega)
      clear hlow hhit hx hlen b1 IX
      go_wp2_with fail
      go_loopw [5, 6] (fun iv jv wr => ∃ (i j : Nat) (cur : List Tx), i < j ∧ j ≤ n ∧ iv = .int .i64 (i : Int) ∧ jv = .int .i64 (j : Int) ∧ Hid (Kp p d i j cur) ∧ Hid (Ow 63 et 4 wr B (.slice (some ⟨g, 0, none⟩) n c) cur) ∧ Hid (w.grownBy wr (some g))) (fun _ jv _ => n - (intOf jv).toNat)
      case atStart => exact ⟨k, k + 1, d, by omega, by omega, rfl, by go_num, K0, O1, G1⟩
      case round =>
        obtain ⟨i, j, cur, hij, hj, rfl, rfl, K, O, G⟩ := hrel
        have hcl : cur.length = n := by rw [HN.out]; exact K.out.1
        by_cases hlt : j < n
        · obtain ⟨x, hx⟩ := len_of (d := d) (k := j) (by rw [← HN.out]; exact hlt)
          have hx2 : cur[j]? = some x := (K.out.2.2 j (Nat.le_refl _)).trans hx
          obtain ⟨c0, c1, c2, c3⟩ := O.out.cells hx2
          have b8 := (Below.refl wr.heap.size wr).alloc (Nat.le_refl _) (.cells #[.int .i64 x.c, .bool x.x.s, sv x.x.u, sv x.x.t] 63)
          have O8 := hide (O.out.step b8)
          have G8 := hide (only_below G.out b8 (by have := G.out.size; exact this))
          have hcall : Calls Tryz.prog g0 #[.agg #[.int .i64 x.c, .bool x.x.s, sv x.x.u, sv x.x.t]] (wr.alloc (.cells #[.int .i64 x.c, .bool x.x.s, sv x.x.u, sv x.x.t] 63)) fun e W' => e = .returned (.bool (p x)) ∧ Below (wr.alloc (.cells #[.int .i64 x.c, .bool x.x.s, sv x.x.u, sv x.x.t] 63)).heap.size (wr.alloc (.cells #[.int .i64 x.c, .bool x.x.s, sv x.x.u, sv x.x.t] 63)) W' := HG.out _ G8.out x (List.mem_of_getElem? hx)
          have HC := hide hcall
          have HX := hide hx
          have E0 := hide (heap_alloc_new wr (.cells #[.int .i64 x.c, .bool x.x.s, sv x.x.u, sv x.x.t] 63))
          have l0 : (0 : Int) ≤ (j : Int) := by omega
          have l1 : (j : Int) < (n : Int) := by omega
          clear hcall hx hx2 b8 O G
          cases hp : p x with
          | false =>
            have KN := hide (K.out.keep hij HX.out hp)
            rw [hp] at HC
            obtain ⟨y, hy⟩ := len_of (d := cur) (k := i) (by omega)
            have HY := hide hy
            clear hy
            go_wp2_with (go_at_fn g0; go_must (refine HC.out.mono ?_; rintro e w3 ⟨rfl, bx⟩; have bxx := hide bx; clear c0 c1 c2 c3 bx; obtain ⟨c0, c1, c2, c3⟩ := (O8.out.step bxx.out).cells HY.out; have f0 := (O8.out.step bxx.out).frozen rfl (i * 4); have f1 := (O8.out.step bxx.out).frozen rfl (i * 4 + 1); have f2 := (O8.out.step bxx.out).frozen rfl (i * 4 + 2); have f3 := (O8.out.step bxx.out).frozen rfl (i * 4 + 3); have E1 := (bxx.out.block wr.heap.size (by simp)).trans E0.out; have e0 := cell_of_row w3 wr.heap.size 0 _ _ _ E1; have e1 := cell_of_row w3 wr.heap.size 1 _ _ _ E1; have e2 := cell_of_row w3 wr.heap.size 2 _ _ _ E1; have e3 := cell_of_row w3 wr.heap.size 3 _ _ _ E1; have l2 : (0 : Int) ≤ (i : Int) := (by omega); have l3 : (i : Int) < (n : Int) := (by omega); have ON := hide ((O8.out.step bxx.out).put4 (i := i) (by omega) x); have GN := hide (only_put4 (only_below G8.out bxx.out (by have := G8.out.size; exact this)) (i * 4) (i * 4 + 1) (i * 4 + 2) (i * 4 + 3) (.int .i64 x.c) (.bool x.x.s) (sv x.x.u) (sv x.x.t)); clear E1 bxx))
            exact ⟨⟨i + 1, j + 1, _, by omega, by omega, by go_num, by go_num, KN, ON, GN⟩, by simp [intOf]; omega⟩
          | true =>
            have KN := hide (K.out.skip HX.out hp)
            rw [hp] at HC
            go_wp2_with (go_at_fn g0; refine HC.out.mono ?_; rintro e w3 ⟨rfl, bx⟩)
            exact ⟨⟨i, j + 1, cur, by omega, by omega, rfl, by go_num, KN, hide (O8.out.step bx), hide (only_below G8.out bx (by have := G8.out.size; exact this))⟩, by simp [intOf]; omega⟩
        · obtain rfl : j = n := by omega
          obtain ⟨w9, hcl9, g9, o9⟩ := run_clearT O.out hij
          have GF := hide (only_trans G.out g9)
          have ef : d.filter (fun x => !p x) = cur.take i := by rw [K.out.2.1, List.take_of_length_le (by rw [← HN.out]; exact Nat.le_refl _)]
          have OF := hide o9
          have l0 : (0 : Int) ≤ (i : Int) := by omega
          have l1 : (i : Int) ≤ (j : Int) := by omega
          have l2 : (i : Int) ≤ (c : Int) := by omega
          clear g9 o9 O G
          go_wp2_with fail
          go_ret
          exact ⟨_, rfl, by rw [ef]; exact OF.out, GF.out⟩
  · have t1 : ((-1 : Int) == -1) = true := rfl
    have ef : d.filter (fun x => !p x) = d := List.filter_eq_self.2 (fun x hx => by simp [hnone x hx])
    have F := hide (HV.out.step b1)
    have G := hide (only_below (only_refl w (Value.slice A n c).ownBlock) b1 (Nat.le_refl _))
    clear IX HG hnone b1
    go_wp2_with fail
    go_ret
    exact ⟨_, rfl, by rw [ef]; exact F.out, G.out⟩
end Go.Proofs.YtieicmcbdhaipaaGreat
