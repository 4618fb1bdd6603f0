
/-
  Queues: the last node goes.
-/
import Derived.Test.YtpfeacdhplbblaaGreatQu6
import Derived.Laws.IdiomCopy
import Derived.Lib.SliceRun
import Derived.Deep.DeepCutAuto


namespace Go.Proofs.YtpfeacdhplbblaaGreat
open Go.RowKit Go.Proofs.YtpfeacdhplbblaaGreat.Num
set_option linter.unusedVariables false
set_option linter.unusedSimpArgs false
set_option maxRecDepth 100000
abbrev znd : Value := .agg #[.int .i64 0, .int .i64 0, .bool false, .slice none 0 0, .slice none 0 0]
theorem znd_zero (w : World) : (zeroValue 38).run Tryz.prog w = .ok znd w := by kernel_rfl
theorem zcells_one (m : Nat) : ∀ v ∈ (Builtin.zeroCells znd.cells m).toList, v.oneCell' = true := by
  intro v hv
  simp [Builtin.zeroCells, Value.cells] at hv
  obtain ⟨i, -, rfl⟩ := hv
  have h5 : i % 5 < 5 := Nat.mod_lt _ (by omega)
  generalize i % 5 = k at *
  match k, h5 with
  | 0, _ => rfl
  | 1, _ => rfl
  | 2, _ => rfl
  | 3, _ => rfl
  | 4, _ => rfl
theorem zcells_len (m : Nat) : (Builtin.zeroCells znd.cells m).toList.length = m * 5 := by simp [Builtin.zeroCells, Value.cells]
abbrev clw (W : World) (a i m : Nat) : World := W.setCells a (i * 5) (Builtin.zeroCells znd.cells m).toList
theorem setCells_only (b : Nat) : ∀ (vs : List Value) (o : Nat) (w : World), w.grownBy (w.setCells b o vs) (some b)
  | [], o, w => only_refl w _
  | v :: r, o, w => only_trans (only_set (p := ⟨b, o, none⟩) (only_refl w (some b)) rfl v) (setCells_only b r (o + 1) _)
theorem setCells_below {B b : Nat} (hB : B ≤ b) {w : World} : ∀ (vs : List Value) (o : Nat) (W : World), Below B w W → Below B w (W.setCells b o vs)
  | [], o, W, h => h
  | v :: r, o, W, h => setCells_below hB r (o + 1) _ (h.setCell (p := ⟨b, o, none⟩) hB v)
theorem setCells_ow {B a n c : Nat} {d : List Nx} : ∀ (vs : List Value) (o : Nat) (W : World), Ow 38 en 5 W B (.slice (some ⟨a, 0, none⟩) n c) d → d.length * 5 ≤ o → Ow 38 en 5 (W.setCells a o vs) B (.slice (some ⟨a, 0, none⟩) n c) d
  | [], o, W, h, _ => h
  | v :: r, o, W, h, ho => by
    refine setCells_ow r (o + 1) _ ?_ (by omega)
    have hn := own_lenN h
    subst hn
    have h1 := (World.ownsRow.stored (show W.ownsRow B _ 5 _ d.length _ from h) o v).1
    rw [List.set_eq_of_length_le (by rw [flat_len en_len]; exact ho)] at h1
    exact h1
theorem run_clearN {W : World} {a i m c : Nat} (hm : 0 < m) (hc : ∀ j, j < m * 5 → (W.cell? ⟨a, i * 5 + j, none⟩).isSome = true) (hf : ∀ j, W.frozen? ⟨a, j, none⟩ = false) (ty : TypeId) :
    (Builtin.clear_ #[29] ty #[.slice (some ⟨a, i * 5, none⟩) m c]).run Tryz.prog W = .ok (.tuple #[]) (clw W a i m) := by
  have hst := run_storeCells_cells (P := Tryz.prog) a (i * 5) (Builtin.zeroCells znd.cells m).toList 0 W (by rw [zcells_len]; simpa using hc) (fun j _ => hf _) (zcells_one m)
  simp only [Nat.add_zero] at hst
  obtain ⟨k, rfl⟩ : ∃ k, m = k + 1 := ⟨m - 1, by omega⟩
  simp [Builtin.clear_, run_underlying Tryz.underlying29, znd_zero, hst]
theorem Ow.pre {W : World} {B a n c : Nat} {d : List Nx} (h : Ow 38 en 5 W B (.slice (some ⟨a, 0, none⟩) n c) d) (k : Nat) (hk : k ≤ d.length) : Ow 38 en 5 W B (.slice (some ⟨a, 0, none⟩) k c) (d.take k) := by
  have hn := own_lenN h
  subst hn
  have hl : (d.take k).length = k := by simp; omega
  have hf : flat en (d.take k) = (flat en d).take (k * 5) := by
    have e : flat en d = flat en (d.take k) ++ flat en (d.drop k) := by rw [← flat_append, List.take_append_drop]
    rw [e, List.take_left' (by rw [flat_len en_len, hl])]
  unfold Ow
  rw [hl]
  refine ⟨by rw [flat_len en_len, hl], ?_⟩
  rcases h.2 with ⟨h1, _⟩ | ⟨g, cap, cur, e, hB, hh, h1, h2, h3, h4⟩
  · cases h1
  · injection e with e1 e2 e3
    subst e3
    refine .inr ⟨g, c, cur, by rw [e1], hB, hh, by omega, h2, h3, ?_⟩
    rw [hf, ← h4, List.take_take, Nat.min_eq_left (Nat.mul_le_mul_right 5 hk)]
theorem ow_cells {W : World} {B a n c : Nat} {d : List Nx} (h : Ow 38 en 5 W B (.slice (some ⟨a, 0, none⟩) n c) d) (j : Nat) (hj : j < c * 5) : (W.cell? ⟨a, j, none⟩).isSome = true := by
  rcases h.form with ⟨e, _⟩ | ⟨g, cap, cur, e, hB, hlt, hh, h1, h2, h3, h4⟩
  · cases e
  · injection e with e1 e2 e3
    injection e1 with e1
    injection e1 with e1
    subst e1 e3
    rw [cell_of_row W _ j cur _ (0, 0) hh]
    simp
    omega
theorem run_join00 {ty : TypeId} (wr : World) (A : Option Addr) (n c c2 : Nat) (D : Addr) (hn : n ≤ c) : (Builtin.append_ #[29, 29] ty #[.slice A n c, .slice (some D) 0 c2]).run Tryz.prog wr = .ok (.slice A n c) wr := by
  obtain ⟨i0, hi, hz0, hz1, hz2⟩ := info_parts info_nd
  cases A <;> simp [Builtin.append_, run_underlying Tryz.underlying29, sizeOf, typeInfo, hi, Builtin.lenOf, hn, Builtin.firstCells, storeCells, loadCells, loadCellsFrom, Result.andThen]
set_option maxHeartbeats 16000000 in
theorem qdel_c {w : World} {B a n m c : Nat} {d : List Nx} (hm : m = n + 1) (h : Ow 38 en 5 w B (.slice (some ⟨a, 0, none⟩) m c) d) :
    Calls Tryz.prog 29 #[.slice (some ⟨a, 0, none⟩) m c, .int .i64 (n : Int), .int .i64 (m : Int)] w fun e w' => e = .returned (.slice (some ⟨a, 0, none⟩) n c) ∧ w' = clw w.drew a n 1 := by
  obtain ⟨hc1, hc2⟩ : m ≤ c ∧ c ≤ 9223372036854775807 := by
    rcases h.form with ⟨e, _⟩ | ⟨g, cap, cur, e, hB, hlt, hh, h1, h2, h3, h4⟩
    · cases e
    · injection e with e1 e2 e3
      unfold maxLen at h2
      omega
  have hcl := fun ty => run_clearN (W := w.drew) (a := a) (i := n) (m := 1) (c := c - n) (by omega) (fun j hj => ow_cells h _ (by omega)) (fun j => h.frozen rfl j) ty
  have hap := fun ty D c2 => run_join00 (ty := ty) w.drew (some ⟨a, 0, none⟩) n c c2 D (by omega)
  have t1 : ((n : Int) == (m : Int)) = false := by simp; omega
  have t2 : (n == m) = false := by simp; omega
  have hn1 : m - n = 1 := by omega
  have hn2 : n ≤ m := by omega
  have hn3 : n ≤ c := by omega
  have l1 : (0 : Int) ≤ (n : Int) := by omega
  have l2 : (n : Int) ≤ (m : Int) := by omega
  have l3 : (m : Int) ≤ (c : Int) := by omega
  have l4 : (n : Int) ≤ (c : Int) := by omega
  obtain ⟨D, hD⟩ : ∃ D : Addr, (if c = m then some (⟨a, 0, none⟩ : Addr) else some ⟨a, m * 5, none⟩) = some D := by
    split
    · exact ⟨_, rfl⟩
    · exact ⟨_, rfl⟩
  have hlc := fun (D : Addr) (w : World) => (show (loadCells D 0).run Tryz.prog w = .ok #[] w by simp [loadCells, loadCellsFrom])
  have M := hide hm
  clear h hm
  go_enter Tryz.func29, Tryz.ntmps29
  go_wp2_with fail
  go_region
  all_goals
    have hne : ¬ c = n := by have := M.out; omega
    clear hlc hap
    go_wp2_with fail
    go_ret
    exact ⟨rfl, rfl⟩
abbrev znx : Nx := ⟨0, 0, ⟨false, (none, 0, 0), (none, 0, 0), 0⟩⟩
theorem nret2 {fn : Func} {p q : Tmp} (h : fn.results = #[.cell p 38, .tmp q]) (tmps : Array Value) (w : World) (g : Nat) (cs : Array Value) (hs : cs.size = 5)
    (hp : tmps.getD p undef = .pointer (some ⟨g, 0, none⟩)) (hg : w.heap[g]? = some (.cells cs 38 (0, 0))) : (results fn tmps).run Tryz.prog w = .ok (.tuple #[.agg cs, tmps.getD q undef]) w := by
  rw [results_cell_tmp h, hp]
  simp [asAddr, run_loadVar_row (P := Tryz.prog) w g 38 38 cs (0, 0) _ hg Tryz.underlying38 rfl (by rw [hs]; kernel_rfl), Result.andThen]
theorem Qo.off {W W' : World} {B g h : Nat} {o : Int} {v : Sl} {l : List Nx} {M : Nat} (hq : Qo W B g o v l M) (hg : W.grownBy W' (some h)) (ho : Ot W h) (h1 : g ≠ h) (h2 : (sv v).ownBlock ≠ some h) : Qo W' B g o v l M :=
  ⟨(hg.block g hq.1.lt (fun e => h1 (Option.some.inj e))).trans hq.1, hq.2.1, hq.2.2.1.kept hg (.inr h2), fun x hx => (hq.2.2.2 x hx).grownT hg (fun g' e => by injection e with e; subst e; exact ho)⟩
theorem Efq.off {w W W' : World} {B g h : Nat} {v v' : Sl} (he : Efq w W B g v v') (hg : W.grownBy W' (some h)) (hb : Below B w W') (hh : w.heap.size ≤ h) : Efq w W' B g v v' :=
  ⟨hb, fun b a c d => (hg.block b (Nat.lt_of_lt_of_le a he.1.size) (fun e => by have := Option.some.inj e; omega)).trans (he.2.1 b a c d), he.2.2⟩
theorem nq_put5 {W : World} {g : Nat} {n : Nx} (h : Nq W g n) (x : Nx) : Nq (put5n W g 0 x) g x :=
  heap_setCell_same _ g 4 _ _ _ (heap_setCell_same _ g 3 _ _ _ (heap_setCell_same _ g 2 _ _ _ (heap_setCell_same _ g 1 _ _ _ (heap_setCell_same W g 0 _ _ _ h))))
theorem Nq.off {W W' : World} {g h : Nat} {n : Nx} (hn : Nq W g n) (hg : W.grownBy W' (some h)) (hne : g ≠ h) : Nq W' g n := (hg.block g hn.lt (fun e => hne (Option.some.inj e))).trans hn
theorem Qo.cut {W : World} {B g a n m c : Nat} {o : Int} {d : List Nx} {M : Nat} (hm : m = n + 1) (h : Qo W B g o (some ⟨a, 0, none⟩, m, c) d M) :
    Quq (clw W.drew a n 1) g o (some ⟨a, 0, none⟩, m, c) ∧ Qo ((clw W.drew a n 1).setCell ⟨g, 1, none⟩ (.slice (some ⟨a, 0, none⟩) n c)) B g o (some ⟨a, 0, none⟩, n, c) (d.take n) M ∧ Efq W ((clw W.drew a n 1).setCell ⟨g, 1, none⟩ (.slice (some ⟨a, 0, none⟩) n c)) B g (some ⟨a, 0, none⟩, m, c) (some ⟨a, 0, none⟩, n, c) := by
  have h' := h.step (Below.refl W.heap.size W).drew
  have hd : m = d.length := own_lenN h.2.2.1
  have hag : a ≠ g := fun e => ow_quq h.2.2.1 h.1 (by rw [← e]; rfl)
  have hBa : B ≤ a := (h.2.2.1.lt (show (Value.slice (some ⟨a, 0, none⟩) m c).ownBlock = some a from rfl)).1
  have hon : W.drew.grownBy (clw W.drew a n 1) (some a) := setCells_only _ _ _ _
  have hot : ∀ g', some a = some g' → Ot W.drew g' := fun g' e => h'.2.2.1.otN g' (by rw [← e]; rfl)
  have q1 : Quq (clw W.drew a n 1) g o (some ⟨a, 0, none⟩, m, c) := (hon.block g h'.1.lt (fun e => hag (Option.some.inj e).symm)).trans h'.1
  have o1 : Ow 38 en 5 (clw W.drew a n 1) B (.slice (some ⟨a, 0, none⟩) n c) (d.take n) := setCells_ow _ _ _ (Ow.pre h'.2.2.1 n (by omega)) (by simp; omega)
  refine ⟨q1, ⟨q1.put (some ⟨a, 0, none⟩, n, c), h.2.1, o1.kept (only_set1 _ g 1 _) (.inr (fun e => hag (by simpa [Value.ownBlock] using e))), fun x hx => ?_⟩, (setCells_below hBa _ _ _ (Below.refl _ _).drew).setCell (p := ⟨g, 1, none⟩) h.2.1 _, fun b hb hbg hbv => ?_, .inl rfl⟩
  · exact ((h'.2.2.2 x (List.mem_of_mem_take hx)).grownT hon hot).grownT (only_set1 _ g 1 _) (fun g' e => by injection e with e; subst e; exact q1.ot)
  · have hba : some b ≠ some a := fun e => hbv (by rw [e]; rfl)
    exact ((only_set1 (clw W.drew a n 1) g 1 _).block b (Nat.lt_of_lt_of_le hb hon.size) (fun e => hbg (Option.some.inj e))).trans (hon.block b hb hba)
theorem qpop0_c {w : World} {B g M : Nat} {o : Int} {v : Sl} (hq : Qo w B g o v [] M) :
    Calls Tryz.prog 11 #[.pointer (some ⟨g, 0, none⟩)] w fun e w' => e = .returned (.tuple #[nx znx, .bool false]) ∧ Below w.heap.size w w' := by
  obtain ⟨VA, vn, vc⟩ := v
  have VN := (lr_nQ hq.rd).1
  have c1 : (w.alloc (nbox znx)).cell? ⟨g, 1, none⟩ = some (.slice VA vn vc) := (hq.step (bal1 w _)).1.c
  simp at VN
  subst VN
  clear hq
  have Z := hide (Nq.new w znx)
  have hb := bal1 w (nbox znx)
  go_enter Tryz.func11, Tryz.ntmps11
  go_wp2_with fail
  exact bodyPost_ret (nret2 rfl _ _ _ #[.int .i64 0, .int .i64 0, .bool false, .slice none 0 0, .slice none 0 0] rfl rfl Z.out) rfl ⟨rfl, hb⟩
def PoRet (w : World) (B g : Nat) (o : Int) (v : Sl) (l : List Nx) (M : Nat) (e : Ending) (w' : World) : Prop :=
  ∃ (x : Nx) (v' : Sl) (l' : List Nx), l[0]? = some x ∧ e = .returned (.tuple #[nx x, .bool true]) ∧ Qo w' B g o v' l' M ∧ (x :: l').Perm l ∧ (Hn o l l.length → Hn o l' l'.length) ∧ Rg w' B x.x M ∧ Efq w w' B g v v'
set_option maxHeartbeats 16000000 in
theorem qpop_c {w : World} {B g M n : Nat} {o : Int} {v : Sl} {l : List Nx} (hq : Qo w B g o v l M) (hn : l.length = n + 1) (hL : l.length ≤ 2000000000000) (h1 : 1 ≤ M) (hM : M ≤ 1000000) :
    Calls Tryz.prog 11 #[.pointer (some ⟨g, 0, none⟩)] w (PoRet w B g o v l M) := by
  obtain ⟨x, hx⟩ := len_of (d := l) (k := 0) (by omega)
  obtain ⟨y, hy⟩ := len_of (d := l) (k := n) (by omega)
  obtain ⟨a, c, rfl, hB, hlt, hl1, hl2, hag⟩ := hq.form hx
  obtain ⟨m, hm⟩ : ∃ m, m = l.length := ⟨_, rfl⟩
  rw [← hm] at hq ⊢
  have HX := hide hx
  have HY := hide hy
  have MN := hide (show m = n + 1 by omega)
  have ML := hide hm
  have LL := hide hL
  have AG := hide (show a ≠ g ∧ a < w.heap.size ∧ B ≤ a ∧ g < w.heap.size ∧ B ≤ w.heap.size from ⟨hag, hlt, hB, hq.1.lt, by omega⟩)
  have RX := hide (hq.2.2.2 x (List.mem_of_getElem? hx))
  have OT := hide (And.intro hq.1.ot (fun b h => hq.2.2.1.otN b h))
  have b0 := bal1 w (nbox znx)
  have Q0 := hide (hq.step b0)
  have Z0 := hide (Nq.new w znx)
  have E0 := hide (Efq.of (B := B) (g := g) (v := (some ⟨a, 0, none⟩, m, c)) b0 (by omega))
  have hc9 : c ≤ 9223372036854775807 := by unfold maxLen at hl2; omega
  clear hq hx hy hm hL b0 hl2 hB
  have c1 : (w.alloc (nbox znx)).cell? ⟨g, 1, none⟩ = some (.slice (some ⟨a, 0, none⟩) m c) := Q0.out.1.c
  obtain ⟨x0, x1, x2, x3, x4⟩ := Ow.cellsN Q0.out.2.2.1 HX.out
  simp only [Nat.zero_mul, Nat.zero_add] at x0 x1 x2 x3 x4
  have t1 : ((m : Int) == 0) = false := by have := MN.out; simp; omega
  have t2 : (m == 0) = false := by have := MN.out; simp; omega
  have l1 : (0 : Int) < (m : Int) := by have := MN.out; omega
  have l2 : 0 < m := by have := MN.out; omega
  have e1 : IntKind.i64.wrap ((m : Int) - 1) = (n : Int) := by rw [IntWalk.i64_in _ (by have := MN.out; omega)]; have := MN.out; omega
  go_enter Tryz.func11, Tryz.ntmps11
  go_wp2_with fail
  have SZ := hide (show (w.alloc (nbox znx)).heap.size = w.heap.size + 1 by simp)
  have n1 : a ≠ (w.alloc (nbox znx)).heap.size := by have := AG.out; have := SZ.out; omega
  have n2 : g ≠ (w.alloc (nbox znx)).heap.size := by have := AG.out; have := SZ.out; omega
  have n3 : a < (w.alloc (nbox znx)).heap.size := by have := AG.out; have := SZ.out; omega
  have n4 : g < (w.alloc (nbox znx)).heap.size := by have := AG.out; have := SZ.out; omega
  generalize (w.alloc (nbox znx)) = w0 at *
  clear hlt hl1 hag hn
  go_cut [4, 5] from 13 to 24 (fun s t wx => s = .pointer (some ⟨w0.heap.size, 0, none⟩) ∧ t = .int .i64 (n : Int) ∧ Hid (wx = (w0.alloc (nbox x)).drew))
  case first =>
    go_region
    all_goals
      go_wp2_with fail
      go_meet
      exact ⟨rfl, rfl, hide rfl⟩
  case rest =>
    obtain ⟨rfl, rfl, hw⟩ := hcut
    have b1 : Below w0.heap.size w0 wc := by rw [hw.out]; exact (bal1 _ _).drew
    have X1 := hide (show Nq wc w0.heap.size x by rw [hw.out]; exact Nq.new w0 x)
    have Q1 := hide (Q0.out.step b1)
    have Z1 := hide (Z0.out.step b1)
    have E1 := hide (E0.out.step b1 (by have := AG.out; have := SZ.out; omega))
    have HS := hide (show w0.heap.size = w.heap.size + 1 from SZ.out)
    clear c1 x0 x1 x2 x3 x4 hw b1 Q0 Z0 E0 n1 n2 n3 n4
    have c1 : wc.cell? ⟨g, 1, none⟩ = some (.slice (some ⟨a, 0, none⟩) m c) := Q1.out.1.c
    obtain ⟨x0, x1, x2, x3, x4⟩ := Ow.cellsN Q1.out.2.2.1 HX.out
    simp only [Nat.zero_mul, Nat.zero_add] at x0 x1 x2 x3 x4
    obtain ⟨y0, y1, y2, y3, y4⟩ := Ow.cellsN Q1.out.2.2.1 HY.out
    have fz : ∀ k, wc.frozen? ⟨a, k, none⟩ = false := fun k => Q1.out.2.2.1.frozen rfl k
    have f0 := fz 0
    have f1 := fz 1
    have f2 := fz 2
    have f3 := fz 3
    have f4 := fz 4
    have i1 : (0 : Int) ≤ (n : Int) := by omega
    have i2 : (n : Int) < (m : Int) := by have := MN.out; omega
    have i3 : n < m := by have := MN.out; omega
    have PQ := Q1.out.put (i := 0) (x := y) HX.out (Q1.out.2.2.2 y (List.mem_of_getElem? HY.out))
    rw [Nat.zero_mul] at PQ
    have hon := only_put5n wc a 0 y
    have Q2 := hide (show Qo (((((wc.setCell ⟨a, 0, none⟩ (.int .i64 y.id)).setCell ⟨a, 1, none⟩ (.int .i64 y.dp)).setCell ⟨a, 2, none⟩ (.bool y.x.s)).setCell ⟨a, 3, none⟩ (sv y.x.u)).setCell ⟨a, 4, none⟩ (sv y.x.t)).drew B g o (some ⟨a, 0, none⟩, m, c) (l.set 0 y) M from PQ.step (Below.refl _ _).drew)
    have X2 := hide (show Nq (((((wc.setCell ⟨a, 0, none⟩ (.int .i64 y.id)).setCell ⟨a, 1, none⟩ (.int .i64 y.dp)).setCell ⟨a, 2, none⟩ (.bool y.x.s)).setCell ⟨a, 3, none⟩ (sv y.x.u)).setCell ⟨a, 4, none⟩ (sv y.x.t)).drew w0.heap.size x from (X1.out.off hon (by have := AG.out; have := HS.out; omega)).step (Below.refl _ _).drew)
    have Z2 := hide (show Nq (((((wc.setCell ⟨a, 0, none⟩ (.int .i64 y.id)).setCell ⟨a, 1, none⟩ (.int .i64 y.dp)).setCell ⟨a, 2, none⟩ (.bool y.x.s)).setCell ⟨a, 3, none⟩ (sv y.x.u)).setCell ⟨a, 4, none⟩ (sv y.x.t)).drew w.heap.size znx from (Z1.out.off hon (by have := AG.out; omega)).step (Below.refl _ _).drew)
    have E2 := hide (show Efq w (((((wc.setCell ⟨a, 0, none⟩ (.int .i64 y.id)).setCell ⟨a, 1, none⟩ (.int .i64 y.dp)).setCell ⟨a, 2, none⟩ (.bool y.x.s)).setCell ⟨a, 3, none⟩ (sv y.x.u)).setCell ⟨a, 4, none⟩ (sv y.x.t)).drew B g (some ⟨a, 0, none⟩, m, c) (some ⟨a, 0, none⟩, m, c) from (E1.out.trans (⟨below_put5n (Below.refl _ _) AG.out.2.2.1 0 y, fun b hb h3 h4 => hon.block b hb (fun e => h4 (by rw [Option.some.inj e]; rfl)), .inl rfl⟩ : Efq wc (put5n wc a 0 y) B g (some ⟨a, 0, none⟩, m, c) (some ⟨a, 0, none⟩, m, c))).step (Below.refl _ _).drew (by have := hon.size; have := E1.out.1.size; have := AG.out; omega))
    clear PQ hon fz Q1 X1 Z1 E1
    go_wp2_with fail
    go_region
    clear c1 x0 x1 x2 x3 x4 y0 y1 y2 y3 y4 f0 f1 f2 f3 f4
    generalize (((((wc.setCell ⟨a, 0, none⟩ (.int .i64 y.id)).setCell ⟨a, 1, none⟩ (.int .i64 y.dp)).setCell ⟨a, 2, none⟩ (.bool y.x.s)).setCell ⟨a, 3, none⟩ (sv y.x.u)).setCell ⟨a, 4, none⟩ (sv y.x.t)).drew = w2 at *
    have c1 : w2.cell? ⟨g, 1, none⟩ = some (.slice (some ⟨a, 0, none⟩) m c) := Q2.out.1.c
    have e2 : IntKind.i64.wrap ((n : Int) + 1) = (m : Int) := by rw [IntWalk.i64_in _ (by have := MN.out; have := LL.out; have := ML.out; omega)]; have := MN.out; omega
    have CU := hide (Qo.cut MN.out Q2.out)
    go_wp2_with fail
    refine (qdel_c MN.out Q2.out.2.2.1).mono ?_
    rintro e w3 ⟨rfl, hw3⟩
    rw [← hw3] at CU
    have Q3 := CU.out.1
    have s1 := Q3.c
    have s2 := Q3.fz 1
    have on3 : w2.drew.grownBy w3 (some a) := by rw [hw3]; exact setCells_only _ _ _ _
    have X3 := hide (((X2.out.step (Below.refl _ _).drew).off on3 (by have := AG.out; have := HS.out; omega)).off (only_set1 w3 g 1 (.slice (some ⟨a, 0, none⟩) n c)) (by have := AG.out; have := HS.out; omega))
    have Z3 := hide (((Z2.out.step (Below.refl _ _).drew).off on3 (by have := AG.out; omega)).off (only_set1 w3 g 1 (.slice (some ⟨a, 0, none⟩) n c)) (by have := AG.out; omega))
    have E3 := hide (E2.out.trans CU.out.2.2)
    have Q4 := hide CU.out.2.1
    have S3 := hide (show w.heap.size ≤ w3.heap.size ∧ w0.heap.size < w3.heap.size from ⟨Nat.le_trans E2.out.1.size (Nat.le_trans (Below.refl w2.heap.size w2).drew.size on3.size), Nat.lt_of_lt_of_le X2.out.lt (Nat.le_trans (Below.refl w2.heap.size w2).drew.size on3.size)⟩)
    clear CU hw3 on3 Q2 X2 Z2 E2 c1 e2
    go_wp2_with fail
    clear s1 s2
    generalize (w3.setCell ⟨g, 1, none⟩ (.slice (some ⟨a, 0, none⟩) n c)) = w4 at *
    have HL := hide (show ((l.set 0 y).take n).length = n by simp; have := ML.out; have := MN.out; omega)
    refine (qsink_c (k := 0) Q4.out (Nat.zero_le _) (by have := HL.out; have := LL.out; have := ML.out; have := MN.out; omega) h1 hM).mono ?_
    rintro e w5 ⟨rfl, l5, q5, p5, h5, ef5⟩
    have X5 : Nq w5 w0.heap.size x := (ef5.2.1 _ X3.out.lt (by have := AG.out; have := HS.out; omega) (fun e => by have := AG.out; have := HS.out; simp [Value.ownBlock] at e; omega)).trans X3.out
    have Z5 : Nq w5 w.heap.size znx := (ef5.2.1 _ Z3.out.lt (by have := AG.out; omega) (fun e => by have := AG.out; simp [Value.ownBlock] at e; omega)).trans Z3.out
    obtain ⟨x0, x1, x2, x3, x4⟩ := X5.all
    obtain ⟨z0, z1, z2, z3, z4⟩ := Z5.all
    have k0 := Z5.fz 0
    have k1 := Z5.fz 1
    have k2 := Z5.fz 2
    have k3 := Z5.fz 3
    have k4 := Z5.fz 4
    have on6 := only_put5n w5 w.heap.size 0 x
    have NF := hide (nq_put5 Z5 x)
    have FIN := hide (show PoRet w B g o (some ⟨a, 0, none⟩, m, c) l M (.returned (.tuple #[nx x, .bool true])) (put5n w5 w.heap.size 0 x) from
      ⟨x, (some ⟨a, 0, none⟩, n, c), l5, HX.out, rfl, q5.off on6 Z5.otq (by have := AG.out; omega) (fun e => by have := AG.out; simp [Value.ownBlock] at e; omega), by
        have h9 := pop_perm (l := l) HX.out (y := y) (by rw [← ML.out, MN.out]; exact HY.out)
        rw [← ML.out, MN.out] at h9
        exact (p5.cons x).trans h9, fun h => by
        have h8 := h.pop (y := y)
        rw [← ML.out, MN.out] at h8
        rw [p5.length_eq]
        exact h5 (by rw [HL.out]; exact h8), (RX.out.efq (E3.out.trans ef5) OT.out.1 OT.out.2).grownT on6 (fun g' e => by injection e with e; subst e; exact Z5.otq), (E3.out.trans ef5).off on6 (below_put5n (E3.out.trans ef5).1 AG.out.2.2.2.2 0 x) (Nat.le_refl _)⟩)
    clear on6 q5 p5 h5 ef5 X3 Z3 X5 Z5 Q4 E3
    go_wp2_with fail
    refine bodyPost_ret (nret2 rfl _ _ _ #[.int .i64 x.id, .int .i64 x.dp, .bool x.x.s, sv x.x.u, sv x.x.t] rfl rfl NF.out) rfl ?_
    exact FIN.out
end Go.Proofs.YtpfeacdhplbblaaGreat
