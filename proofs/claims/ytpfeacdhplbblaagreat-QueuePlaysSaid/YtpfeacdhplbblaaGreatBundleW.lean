/-
  Shared texts, one behind the other: Qu9, Qu10.
-/
import Derived.Test.YtpfeacdhplbblaaGreatQu7
import Derived.Test.YtpfeacdhplbblaaGreatShelfS
import Derived.ArgAppend

namespace Go.Proofs.YtpfeacdhplbblaaGreat
open Go.RowKit Go.Proofs.YtpfeacdhplbblaaGreat.Num
set_option linter.unusedVariables false
set_option linter.unusedSimpArgs false
set_option maxRecDepth 100000
def keep (q : Rat) (l : List Nx) : List Nx := l.filter fun x => decide (x.x.r < q)
def gone (q : Rat) (l : List Nx) : List Int := (l.filter fun x => !decide (x.x.r < q)).map Nx.id
theorem keep_len (q : Rat) (l : List Nx) : (keep q l).length ≤ l.length := List.length_filter_le _ _
theorem keep_next {q : Rat} {l : List Nx} {k : Nat} {x : Nx} (hx : l[k]? = some x) (h : x.x.r < q) : keep q (l.take (k + 1)) = keep q (l.take k) ++ [x] ∧ gone q (l.take (k + 1)) = gone q (l.take k) := by
  have hk := (List.getElem?_eq_some_iff.1 hx).1
  have e := (List.getElem?_eq_some_iff.1 hx).2
  rw [List.take_succ_eq_append_getElem hk, e]
  unfold keep gone
  rw [List.filter_append, List.filter_append]
  simp [h]
theorem gone_next {q : Rat} {l : List Nx} {k : Nat} {x : Nx} (hx : l[k]? = some x) (h : ¬ x.x.r < q) : keep q (l.take (k + 1)) = keep q (l.take k) ∧ gone q (l.take (k + 1)) = gone q (l.take k) ++ [x.id] := by
  have hk := (List.getElem?_eq_some_iff.1 hx).1
  have e := (List.getElem?_eq_some_iff.1 hx).2
  rw [List.take_succ_eq_append_getElem hk, e]
  unfold keep gone
  rw [List.filter_append, List.filter_append]
  simp [h]
def eiq (x : Int) : List Value := [.int .i64 x]
theorem eiq_len (x : Int) : (eiq x).length = 1 := rfl
theorem eiq_one (x : Int) : ∀ u ∈ eiq x, u.oneCell' = true := by
  intro u hu
  simp [eiq] at hu
  subst hu; rfl
theorem info_iq : (Tryz.prog.info? 3).map (fun i => (i.zero, i.size, i.bytes)) = some (some (.int .i64 0), 1, 8) := by kernel_rfl
section
variable {α : Type} {enc : α → List Value} {k : Nat}
theorem wpList_pushT {P : Program} {ops : Array Oper} {rest : List Oper} {o : Oper} {a : Act} {Q : Exit → Act → World → Prop} (hgd : o.guard = none) (s y : Operand) (t : TypeId)
    (ho : o.op = .call { callee := .builtin .append, args := #[s, y], argTypes := #[t, t] })
    {e : TypeId} {i : TypeInfo} {z : Value} {by_ : Nat} (ht : P.underlying t = some (.slice e)) (hi : P.info? e = some i) (hz : i.zero = some z)
    (hsize : i.size = k) (hby : i.bytes = by_) (hzs : z.cells.size = k) (h0 : 0 < k) (hk : ∀ x, (enc x).length = k) (h1 : ∀ x, ∀ u ∈ enc x, u.oneCell' = true) (wr : World) (B : Nat) (v : Value) (d : List α) (x : α) (cs : Array Value) (hcs : cs.toList = enc x)
    (hown : Ow e enc k wr B v d) (hs : a.eval s = v) (hy : a.eval y = .slice (some ⟨wr.heap.size, 0, none⟩) 1 1)
    (hlen : d.length + 1 ≤ 10000000000000) (hbt : (d.length + 1) * by_ ≤ 140737488355328) (hB : B ≤ wr.heap.size)
    (h : ∀ v' w', Ow e enc k w' B v' (d ++ [x]) → (wr.grownBy w' v.ownBlock ∧ (v'.ownBlock = v.ownBlock ∨ v'.ownBlock = some (wr.heap.size + 1))) → wpList P ops Q rest (a.put o.dst v') w') :
    wpList P ops Q (o :: rest) a (wr.alloc (.cells cs e)) :=
  wpList_plain hgd fun _ hK => by
    obtain ⟨v', w', hr, h2, h3⟩ := run_pushT (P := P) ht hi hz hsize hby hzs h0 hk h1 o.type wr B v d x cs hcs hown hlen hbt hB
    unfold Oper.wp execOp
    simp only [ho, resolve, invoke, builtin, Sem.run_bind, Sem.run_pure, Result.andThen_ok, List.map_toArray, List.map_cons, List.map_nil, hs, hy, hr]
    exact hK _ _ (h v' w' h2 h3)
theorem Ow.same {T : TypeId} {W W' : World} {B : Nat} {v : Value} {d : List α} (h : Ow T enc k W B v d) (hb : ∀ b, v.ownBlock = some b → W'.heap[b]? = W.heap[b]?) : Ow T enc k W' B v d := by
  obtain ⟨h1, h2⟩ := h
  refine ⟨h1, ?_⟩
  rcases h2 with h2 | ⟨g, cap, cur, e, hB, hh, r⟩
  · exact .inl h2
  · exact .inr ⟨g, cap, cur, e, hB, (hb g (by rw [e]; rfl)).trans hh, r⟩
end
theorem run_roomN {W : World} {B a m n c g : Nat} {L : List Nx} {x : Nx} (h : Ow 38 en 5 W B (.slice (some ⟨a, 0, none⟩) n c) L) (hm : m < n) (ty : TypeId) :
    (Builtin.append_ #[29, 29] ty #[.slice (some ⟨a, 0, none⟩) m c, .slice (some ⟨W.heap.size, 0, none⟩) 1 1]).run Tryz.prog (W.alloc (nbox x)) = .ok (.slice (some ⟨a, 0, none⟩) (m + 1) c) (put5n (W.alloc (nbox x)) a (m * 5) x) := by
  obtain ⟨i0, hi, hz0, hz1, hz2⟩ := info_parts info_nd
  have hn : n ≤ c := by
    rcases h.form with ⟨e, _⟩ | ⟨g, cap, cur, e, hB, hlt, hh, h1, h2, h3, h4⟩
    · cases e
    · injection e with e1 e2 e3
      omega
  have h' : Ow 38 en 5 (W.alloc (nbox x)) B (.slice (some ⟨a, 0, none⟩) n c) L := h.step (bal1 W _)
  have hr := run_append_room_cells (P := Tryz.prog) (W.alloc (nbox x)) 29 ty 38 i0 Tryz.underlying29 hi a 0 m c ⟨W.heap.size, 0, none⟩ 1 1 (en x) (by rw [hz1]; rfl) (by
    intro j u hj
    have e1 : (⟨W.heap.size, 0, none⟩ : Addr).add j = ⟨W.heap.size, j, none⟩ := by
      unfold Addr.add
      by_cases h : j = 0
      · subst h; simp
      · simp [h]
    rw [e1, cell_of_row _ W.heap.size j _ 38 (0, 0) (heap_alloc_new _ _), ← Array.getElem?_toList]
    exact hj) (en_one x) (by omega) (fun j hj => ow_cells h' _ (by rw [hz1]; rw [en_len] at hj; omega)) (fun j hj => h'.frozen rfl _)
  rw [hz1, Nat.zero_add] at hr
  exact hr
theorem run_clear0 (W : World) (D : Option Addr) (c : Nat) (ty : TypeId) : (Builtin.clear_ #[29] ty #[.slice D 0 c]).run Tryz.prog W = .ok (.tuple #[]) W := by
  cases D <;> simp [Builtin.clear_, run_underlying Tryz.underlying29]
theorem clw0 (W : World) (a i : Nat) : clw W a i 0 = W := by
  show W.setCells a (i * 5) (Builtin.zeroCells znd.cells 0).toList = W
  simp [Builtin.zeroCells]
  rfl
theorem Qo.cutN {W : World} {B g a n m c : Nat} {o : Int} {d : List Nx} {M : Nat} (hm : m ≤ n) (h : Qo W B g o (some ⟨a, 0, none⟩, n, c) d M) :
    Quq (clw W a m (n - m)) g o (some ⟨a, 0, none⟩, n, c) ∧ Qo ((clw W a m (n - m)).setCell ⟨g, 1, none⟩ (.slice (some ⟨a, 0, none⟩) m c)) B g o (some ⟨a, 0, none⟩, m, c) (d.take m) M ∧ Efq W ((clw W a m (n - m)).setCell ⟨g, 1, none⟩ (.slice (some ⟨a, 0, none⟩) m c)) B g (some ⟨a, 0, none⟩, n, c) (some ⟨a, 0, none⟩, m, c) := by
  have hd : n = d.length := own_lenN h.2.2.1
  have hag : a ≠ g := fun e => ow_quq h.2.2.1 h.1 (by rw [← e]; rfl)
  have hBa : B ≤ a := (h.2.2.1.lt (show (Value.slice (some ⟨a, 0, none⟩) n c).ownBlock = some a from rfl)).1
  have hon : W.grownBy (clw W a m (n - m)) (some a) := setCells_only _ _ _ _
  have hot : ∀ g', some a = some g' → Ot W g' := fun g' e => h.2.2.1.otN g' (by rw [← e]; rfl)
  have q1 : Quq (clw W a m (n - m)) g o (some ⟨a, 0, none⟩, n, c) := (hon.block g h.1.lt (fun e => hag (Option.some.inj e).symm)).trans h.1
  have o1 : Ow 38 en 5 (clw W a m (n - m)) B (.slice (some ⟨a, 0, none⟩) m c) (d.take m) := setCells_ow _ _ _ (Ow.pre h.2.2.1 m (by omega)) (by simp; omega)
  refine ⟨q1, ⟨q1.put (some ⟨a, 0, none⟩, m, c), h.2.1, o1.kept (only_set1 _ g 1 _) (.inr (fun e => hag (by simpa [Value.ownBlock] using e))), fun x hx => ?_⟩, (setCells_below hBa _ _ _ (Below.refl _ _)).setCell (p := ⟨g, 1, none⟩) h.2.1 _, fun b hb hbg hbv => ?_, .inl rfl⟩
  · exact ((h.2.2.2 x (List.mem_of_mem_take hx)).grownT hon hot).grownT (only_set1 _ g 1 _) (fun g' e => by injection e with e; subst e; exact q1.ot)
  · have hba : some b ≠ some a := fun e => hbv (by rw [e]; rfl)
    exact ((only_set1 (clw W a m (n - m)) g 1 _).block b (Nat.lt_of_lt_of_le hb hon.size) (fun e => hbg (Option.some.inj e))).trans (hon.block b hb hba)
theorem sorted_iq {w : World} {B g c : Nat} {d : List Int} (h : Ow 3 eiq 1 w B (.slice (some ⟨g, 0, none⟩) d.length c) d) {d' : Array Int} (hs : d'.size = d.length) (n : Nat) (os : Array Obj) :
    Ow 3 eiq 1 (Go.Sort.grow (Go.Sort.putRow (Value.int .i64) (Go.Sort.ahead w n) g 0 d') os) B (.slice (some ⟨g, 0, none⟩) d'.toList.length c) d'.toList ∧ w.grownBy (Go.Sort.grow (Go.Sort.putRow (Value.int .i64) (Go.Sort.ahead w n) g 0 d') os) (some g) := by
  have hfl : ∀ l : List Int, flat eiq l = l.map (Value.int .i64) := by
    intro l
    induction l with
    | nil => rfl
    | cons a r ih => simp [flat, eiq, ih]
  rcases h.form with ⟨e, _⟩ | ⟨g', cap, cur, e, hB, hlt, hh, h1, h2, h3, h4⟩
  · cases e
  · cases e
    have hheap : (Go.Sort.grow (Go.Sort.putRow (Value.int .i64) (Go.Sort.ahead w n) g 0 d') os).heap[g]? = some (.cells (Go.Sort.putCells (Value.int .i64) 0 d' cur) 3 (0, 0)) := by
      show ((w.heap.modify g (Go.Sort.onCells (Go.Sort.putCells (Value.int .i64) 0 d'))) ++ os)[g]? = _
      rw [Array.getElem?_append_left (by simpa using hlt), Array.getElem?_modify, if_pos rfl, hh]
      rfl
    refine ⟨⟨by rw [flat_len eiq_len], .inr ⟨g, c, _, rfl, hB, hheap, by rw [Array.length_toList, hs]; exact h1, h2, by simp [Go.Sort.putCells, h3], ?_⟩⟩, ⟨rfl, rfl, rfl, ?_, fun i hi hne => ?_⟩⟩
    · rw [hfl]
      apply List.ext_getElem?
      intro t
      rw [List.getElem?_take, Array.length_toList, hs, List.getElem?_map, Array.getElem?_toList]
      by_cases ht : t < d.length * 1
      · rw [if_pos ht, Array.getElem?_toList, Go.Sort.putCells, Array.getElem?_mapIdx, Array.getElem?_eq_getElem (show t < cur.size by omega), Array.getElem?_eq_getElem (show t < d'.size by omega)]
        simp only [Option.map_some, Nat.zero_le, true_and, Nat.zero_add, Nat.sub_zero]
        rw [if_pos (by omega), getElem!_pos d' t (by omega)]
      · rw [if_neg ht, List.getElem?_eq_none (by rw [Array.length_toList]; omega)]
        rfl
    · show w.heap.size ≤ ((w.heap.modify g (Go.Sort.onCells (Go.Sort.putCells (Value.int .i64) 0 d'))) ++ os).size
      rw [Array.size_append, Array.size_modify]
      omega
    · show ((w.heap.modify g (Go.Sort.onCells (Go.Sort.putCells (Value.int .i64) 0 d'))) ++ os)[i]? = _
      rw [Array.getElem?_append_left (by simpa using hi), Array.getElem?_modify, if_neg (fun e => hne (by rw [e]))]
abbrev srt (l : List Int) : List Int := l.mergeSort fun x y => decide (x ≤ y)
theorem srt_nil : srt [] = [] := by simp [srt]
theorem sort_c {w : World} {B : Nat} {v : Value} {d : List Int} (h : Ow 3 eiq 1 w B v d) (hd : d.length < 4611686018427387904) :
    Calls Tryz.prog 32 #[v] w fun e w' => e = .returned (.tuple #[]) ∧ Ow 3 eiq 1 w' B v (srt d) ∧ w.grownBy w' v.ownBlock := by
  rcases h.form with ⟨rfl, rfl⟩ | ⟨g, cap, cur, rfl, hB, hlt, hh, h1, h2, h3, h4⟩
  · refine (Tryz.slices_Sort_none none 0 w).mono fun e w' k => ?_
    exact ⟨k.1, by rw [srt_nil]; exact Ow.nil _ _ _ _ _, ⟨k.2.os, k.2.tape, k.2.output, k.2.size, fun b hb _ => k.2.block b hb⟩⟩
  · have hfl : ∀ l : List Int, flat eiq l = l.map (Value.int .i64) := by
      intro l
      induction l with
      | nil => rfl
      | cons a r ih => simp [flat, eiq, ih]
    have hH : Go.Sort.Holds (Value.int .i64) w g 0 d.toArray := by
      intro j hj
      have hj2 : j < d.length := by simpa using hj
      refine ⟨?_, frozen_of_row w g _ cur 3 hh⟩
      have e4 : (cur.toList.take (d.length * 1))[j]? = (flat eiq d)[j]? := by rw [h4]
      rw [List.getElem?_take, if_pos (by omega), hfl, List.getElem?_map, Array.getElem?_toList, List.getElem?_eq_getElem hj2] at e4
      rw [Nat.zero_add, cell_of_row w g j cur 3 (0, 0) hh, e4]
      rw [getElem!_pos d.toArray j hj]
      rfl
    refine (Tryz.slices_Sort_int g 0 cap d w hH hlt hd).mono fun e w' k => ?_
    obtain ⟨rfl, n, os, rfl⟩ := k
    have hs : (srt d).toArray.size = d.length := by simp
    have := sorted_iq h hs n os
    have el : (srt d).toArray.toList.length = d.length := by simp
    rw [el] at this
    exact ⟨rfl, by simpa using this.1, this.2⟩
def PrRet (w : World) (B g : Nat) (o : Int) (v : Sl) (l : List Nx) (M : Nat) (q : Rat) (e : Ending) (w' : World) : Prop :=
  ∃ (out : Value) (v' : Sl) (l' : List Nx), e = .returned out ∧ Ow 3 eiq 1 w' w.heap.size out (srt (gone q l)) ∧ Qo w' B g o v' l' M ∧ l'.Perm (keep q l) ∧ Hn o l' l'.length ∧ Efq w w' B g v v'
def Pr (w : World) (B g a n c : Nat) (o : Int) (l : List Nx) (M : Nat) (q : Rat) (k m : Nat) (out : Value) (W : World) : Prop :=
  Qo W B g o (some ⟨a, 0, none⟩, n, c) (keep q (l.take k) ++ l.drop m) M ∧ m = (keep q (l.take k)).length ∧ Ow 3 eiq 1 W w.heap.size out (gone q (l.take k)) ∧ Efq w W B g (some ⟨a, 0, none⟩, n, c) (some ⟨a, 0, none⟩, n, c)
theorem Pr.step {w W W' : World} {B g a n c : Nat} {o : Int} {l : List Nx} {M : Nat} {q : Rat} {k m : Nat} {out : Value} (h : Pr w B g a n c o l M q k m out W) (hb : Below W.heap.size W W') : Pr w B g a n c o l M q k m out W' :=
  ⟨h.1.step hb, h.2.1, h.2.2.1.step hb, h.2.2.2.step hb (Nat.le_trans h.1.2.1 (Nat.le_of_lt h.1.1.lt))⟩
theorem Pr.start {w W : World} {B g a n c : Nat} {o : Int} {l : List Nx} {M : Nat} {q : Rat} (h : Qo W B g o (some ⟨a, 0, none⟩, n, c) l M) (he : Efq w W B g (some ⟨a, 0, none⟩, n, c) (some ⟨a, 0, none⟩, n, c)) : Pr w B g a n c o l M q 0 0 (.slice none 0 0) W :=
  ⟨by simpa [keep] using h, rfl, by simp [gone]; exact Ow.nil _ _ _ _ _, he⟩
theorem Pr.le {w W : World} {B g a n c : Nat} {o : Int} {l : List Nx} {M : Nat} {q : Rat} {k m : Nat} {out : Value} (h : Pr w B g a n c o l M q k m out W) : m ≤ k := by
  have h2 := h.2.1
  have h3 := keep_len q (l.take k)
  simp at h3
  omega
theorem Pr.at_ {w W : World} {B g a n c : Nat} {o : Int} {l : List Nx} {M : Nat} {q : Rat} {k m : Nat} {out : Value} {x : Nx} (h : Pr w B g a n c o l M q k m out W) (hx : l[k]? = some x) : (keep q (l.take k) ++ l.drop m)[k]? = some x := by
  have h1 := h.le
  rw [List.getElem?_append_right (by rw [← h.2.1]; exact h1), ← h.2.1, List.getElem?_drop, show m + (k - m) = k by omega]
  exact hx
theorem Pr.at9 {w W : World} {B g a n c : Nat} {o : Int} {l : List Nx} {M : Nat} {q : Rat} {k m : Nat} {out : Value} {x : Nx} (h : Pr w B g a n c o l M q k m out W) (hx : l[k]? = some x) : ∃ y, (keep q (l.take k) ++ l.drop m)[m]? = some y := by
  have h1 := h.le
  have h2 := (List.getElem?_eq_some_iff.1 hx).1
  exact len_of (by simp [← h.2.1]; omega)
theorem Pr.stay {w W : World} {B g a n c : Nat} {o : Int} {l : List Nx} {M : Nat} {q : Rat} {k m : Nat} {out : Value} {x : Nx} (h : Pr w B g a n c o l M q k m out W) (hx : l[k]? = some x) (hq : x.x.r < q) (ha : ∀ b, out.ownBlock = some b → b ≠ a) : Pr w B g a n c o l M q (k + 1) (m + 1) out (put5n W a (m * 5) x) := by
  obtain ⟨y, hy⟩ := h.at9 hx
  obtain ⟨e1, e2⟩ := keep_next hx hq
  have hk := (List.getElem?_eq_some_iff.1 hx).1
  have h1 := h.le
  have p := h.1.put (x := x) hy (h.1.2.2.2 x (List.mem_of_getElem? (h.at_ hx)))
  have hs : (keep q (l.take k) ++ l.drop m).set m x = keep q (l.take (k + 1)) ++ l.drop (m + 1) := by
    rw [e1, List.set_append_right _ _ (by rw [← h.2.1]; exact Nat.le_refl _), ← h.2.1, Nat.sub_self, List.append_assoc]
    congr 1
    rw [List.drop_eq_getElem_cons (by omega)]
    rfl
  rw [hs] at p
  have hBa : B ≤ a := (h.1.2.2.1.lt (show (Value.slice (some ⟨a, 0, none⟩) n c).ownBlock = some a from rfl)).1
  refine ⟨p, by rw [e1, List.length_append, ← h.2.1]; rfl, ?_, h.2.2.2.trans ⟨below_put5n (Below.refl _ _) hBa _ x, fun b hb h3 h4 => (only_put5n W a (m * 5) x).block b hb (fun e => h4 (by rw [Option.some.inj e]; rfl)), .inl rfl⟩⟩
  rw [e2]
  exact h.2.2.1.same (fun b hb => (only_put5n W a (m * 5) x).block b (h.2.2.1.lt hb).2 (fun e => ha b hb (Option.some.inj e)))
theorem Pr.go {w W W' : World} {B g a n c : Nat} {o : Int} {l : List Nx} {M : Nat} {q : Rat} {k m : Nat} {out out' : Value} {x : Nx} (h : Pr w B g a n c o l M q k m out W) (hx : l[k]? = some x) (hq : ¬ x.x.r < q) (hB : B ≤ w.heap.size) (ha : a < w.heap.size) (hg0 : g < w.heap.size)
    (ho : Ow 3 eiq 1 W' w.heap.size out' (gone q (l.take k) ++ [x.id])) (hg : W.grownBy W' out.ownBlock) : Pr w B g a n c o l M q (k + 1) m out' W' := by
  obtain ⟨e1, e2⟩ := gone_next hx hq
  have hlt : ∀ b, out.ownBlock = some b → w.heap.size ≤ b ∧ b < W.heap.size := fun b hb => h.2.2.1.lt hb
  have hgo : ∀ b, b < W.heap.size → b < w.heap.size → W'.heap[b]? = W.heap[b]? := fun b h1 h2 => hg.block b h1 (fun e => by have := (hlt b e.symm).1; omega)
  have hot : ∀ g', out.ownBlock = some g' → Ot W g' := by
    intro g' e
    rcases h.2.2.1.form with ⟨rfl, _⟩ | ⟨g2, cap, cur, rfl, hB, hlt, hh, r⟩
    · cases e
    · have e : g2 = g' := by simpa [Value.ownBlock] using e
      subst e
      exact ⟨cur, _, _, hh, by decide⟩
  refine ⟨⟨(hgo g h.1.1.lt hg0).trans h.1.1, h.1.2.1, ?_, fun z hz => ?_⟩, by rw [e1]; exact h.2.1, by rw [e2]; exact ho, ?_⟩
  · rw [e1]
    exact h.1.2.2.1.kept hg (.inr (fun e => by have := (hlt a (by rw [← e]; rfl)).1; omega))
  · rw [e1] at hz
    exact (h.1.2.2.2 z hz).grownT hg hot
  · exact ⟨h.2.2.2.1.grown hg (Nat.le_trans h.1.2.1 (Nat.le_of_lt h.1.1.lt)) (fun b hb => Nat.le_trans hB (hlt b hb).1), fun b hb h3 h4 => (hgo b (Nat.lt_of_lt_of_le hb h.2.2.2.1.size) hb).trans (h.2.2.2.2.1 b hb h3 h4), .inl rfl⟩
theorem Pr.end_ {w W : World} {B g a n c : Nat} {o : Int} {l : List Nx} {M : Nat} {q : Rat} {m : Nat} {out : Value} (h : Pr w B g a n c o l M q n m out W) (hn : l.length = n) : m ≤ n ∧ m = (keep q l).length ∧ Qo W B g o (some ⟨a, 0, none⟩, n, c) (keep q l ++ l.drop m) M ∧ (keep q l ++ l.drop m).take m = keep q l ∧ Ow 3 eiq 1 W w.heap.size out (gone q l) := by
  have e : l.take n = l := List.take_of_length_le (by omega)
  have h0 := h.le
  have h2 := h.2.1
  have h1 := h.1
  have h3 := h.2.2.1
  rw [e] at h1 h2 h3
  exact ⟨h0, h2, h1, by rw [List.take_left' h2.symm], h3⟩
theorem Qo.offO {W W' : World} {B g : Nat} {row : Option Nat} {o : Int} {v : Sl} {l : List Nx} {M : Nat} (hq : Qo W B g o v l M) (hg : W.grownBy W' row) (ho : ∀ h, row = some h → Ot W h) (h1 : row ≠ some g) (h2 : ∀ b, row = some b → (sv v).ownBlock ≠ some b) : Qo W' B g o v l M :=
  ⟨(hg.block g hq.1.lt (fun e => h1 e.symm)).trans hq.1, hq.2.1, by
    rcases row with _ | b
    · rcases hv : (sv v).ownBlock with _ | c
      · exact hq.2.2.1.kept hg (.inl hv)
      · exact hq.2.2.1.kept hg (.inr (by rw [hv]; simp))
    · exact hq.2.2.1.kept hg (.inr (h2 b rfl)), fun x hx => (hq.2.2.2 x hx).grownT hg ho⟩
theorem Efq.offO {w W W' : World} {B g : Nat} {row : Option Nat} {v v' : Sl} (he : Efq w W B g v v') (hg : W.grownBy W' row) (hB : B ≤ W.heap.size) (hh : ∀ b, row = some b → w.heap.size ≤ b ∧ B ≤ b) : Efq w W' B g v v' :=
  ⟨he.1.grown hg hB (fun b e => (hh b e).2), fun b a c d => (hg.block b (Nat.lt_of_lt_of_le a he.1.size) (fun e => by have := (hh b e.symm).1; omega)).trans (he.2.1 b a c d), he.2.2⟩
theorem Ow.efq {α : Type} {enc : α → List Value} {k : Nat} {T : TypeId} {W W' : World} {B g : Nat} {v v' : Sl} {out : Value} {d : List α} {C : Nat} (h : Ow T enc k W C out d) (he : Efq W W' B g v v') (hg : g < C) (hv : ∀ b, (sv v).ownBlock = some b → b < C) : Ow T enc k W' C out d :=
  h.same (fun b hb => he.2.1 b (h.lt hb).2 (fun e => by have := (h.lt hb).1; omega) (fun e => by have := (h.lt hb).1; have := hv b e; omega))
end Go.Proofs.YtpfeacdhplbblaaGreat
