/-
  takeApart: the parts of a text.
-/
import Derived.Test.YtajjpepjbflojaaGreatDoorRtx2

namespace Go.Proofs.YtajjpepjbflojaaGreatDoor
open Go.RowKit Go.Proofs.YtajjpepjbflojaaGreatDoor.Num
set_option linter.unusedVariables false
set_option linter.unusedSimpArgs false
set_option maxRecDepth 100000

abbrev pv (a b c d f x : ByteArray) : Value := .agg #[.string a, .string b, .string c, .string d, .string f, .string x]
abbrev pblk (a b c d f x : ByteArray) : Obj := .cells #[.string a, .string b, .string c, .string d, .string f, .string x] 61
def PB (w : World) (g : Nat) (a b c d f x : ByteArray) : Prop := w.heap[g]? = some (pblk a b c d f x)
/-- A value is the parts. -/
def Pv (p : Pts) (v : Value) : Prop := ∃ a b c d f x : ByteArray, v = pv a b c d f x ∧ a.data.toList = p.sg ∧ b.data.toList = p.ah ∧ c.data.toList = p.un ∧ d.data.toList = p.be ∧ f.data.toList = p.es ∧ x.data.toList = p.ex
def TaRet (w : World) (l : List UInt8) (e : Ending) (w' : World) : Prop := ∃ v, e = .returned (.tuple #[v, .bool (rtk l).2]) ∧ Pv (rtk l).1 v ∧ Below w.heap.size w w'

/-- The world while the text is taken apart. -/
def Ts (w W : World) (T : ByteArray) (r : Bool) (a b c d f x : ByteArray) : Prop :=
  Below w.heap.size w W ∧ RdB W (w.heap.size + 1) T r ∧ PB W (w.heap.size + 1 + 1) a b c d f x ∧ PB W w.heap.size ⟨#[]⟩ ⟨#[]⟩ ⟨#[]⟩ ⟨#[]⟩ ⟨#[]⟩ ⟨#[]⟩
theorem PB.lt {w : World} {g : Nat} {a b c d f x : ByteArray} (h : PB w g a b c d f x) : g < w.heap.size := by unfold PB at h; exact (Array.getElem?_eq_some_iff.1 h).1
section
variable {w W W' : World} {T U : ByteArray} {r s : Bool} {a b c d f x y : ByteArray}
theorem Ts.call (h : Ts w W T r a b c d f x) (hR : RdB W' (w.heap.size + 1) U s) (hG : W.grownBy W' (some (w.heap.size + 1))) : Ts w W' U s a b c d f x := by
  obtain ⟨h1, h2, h3, h4⟩ := h
  exact ⟨h1.grown hG h1.size (fun k e => by cases e; omega), hR, (hG.block _ h3.lt (fun e => by injection e with e; omega)).trans h3, (hG.block _ h4.lt (fun e => by injection e with e; omega)).trans h4⟩
theorem Ts.far (h : Ts w W T r a b c d f x) (j : Nat) (v : Value) {a' b' c' d' f' x' : ByteArray} (hp : PB (W.setCell ⟨w.heap.size + 1 + 1, j, none⟩ v) (w.heap.size + 1 + 1) a' b' c' d' f' x') : Ts w (W.setCell ⟨w.heap.size + 1 + 1, j, none⟩ v) T r a' b' c' d' f' x' := by
  obtain ⟨h1, h2, h3, h4⟩ := h
  exact ⟨h1.setCell (show w.heap.size ≤ w.heap.size + 1 + 1 by omega) _, (Below.heap_setCell W _ _ _ (show w.heap.size + 1 ≠ w.heap.size + 1 + 1 by omega)).trans h2, hp, (Below.heap_setCell W _ _ _ (show w.heap.size ≠ w.heap.size + 1 + 1 by omega)).trans h4⟩
theorem Ts.put0 (h : Ts w W T r a b c d f x) (y : ByteArray) : Ts w (W.setCell ⟨w.heap.size + 1 + 1, 0, none⟩ (.string y)) T r y b c d f x := h.far 0 _ (heap_setCell_same W _ 0 _ _ _ h.2.2.1)
theorem Ts.put1 (h : Ts w W T r a b c d f x) (y : ByteArray) : Ts w (W.setCell ⟨w.heap.size + 1 + 1, 1, none⟩ (.string y)) T r a y c d f x := h.far 1 _ (heap_setCell_same W _ 1 _ _ _ h.2.2.1)
theorem Ts.put2 (h : Ts w W T r a b c d f x) (y : ByteArray) : Ts w (W.setCell ⟨w.heap.size + 1 + 1, 2, none⟩ (.string y)) T r a b y d f x := h.far 2 _ (heap_setCell_same W _ 2 _ _ _ h.2.2.1)
theorem Ts.put3 (h : Ts w W T r a b c d f x) (y : ByteArray) : Ts w (W.setCell ⟨w.heap.size + 1 + 1, 3, none⟩ (.string y)) T r a b c y f x := h.far 3 _ (heap_setCell_same W _ 3 _ _ _ h.2.2.1)
theorem Ts.put4 (h : Ts w W T r a b c d f x) (y : ByteArray) : Ts w (W.setCell ⟨w.heap.size + 1 + 1, 4, none⟩ (.string y)) T r a b c d y x := h.far 4 _ (heap_setCell_same W _ 4 _ _ _ h.2.2.1)
theorem Ts.put5 (h : Ts w W T r a b c d f x) (y : ByteArray) : Ts w (W.setCell ⟨w.heap.size + 1 + 1, 5, none⟩ (.string y)) T r a b c d f y := h.far 5 _ (heap_setCell_same W _ 5 _ _ _ h.2.2.1)
theorem Ts.fz (h : Ts w W T r a b c d f x) (j : Nat) : W.frozen? ⟨w.heap.size + 1 + 1, j, none⟩ = false := frozen_of_row W _ j _ _ h.2.2.1
theorem Ts.cells (h : Ts w W T r a b c d f x) : W.cell? ⟨w.heap.size + 1 + 1, 0, none⟩ = some (.string a) ∧ W.cell? ⟨w.heap.size + 1 + 1, 1, none⟩ = some (.string b) ∧ W.cell? ⟨w.heap.size + 1 + 1, 2, none⟩ = some (.string c) ∧ W.cell? ⟨w.heap.size + 1 + 1, 3, none⟩ = some (.string d) ∧ W.cell? ⟨w.heap.size + 1 + 1, 4, none⟩ = some (.string f) ∧ W.cell? ⟨w.heap.size + 1 + 1, 5, none⟩ = some (.string x) :=
  ⟨cell_of_row W _ 0 _ _ _ h.2.2.1, cell_of_row W _ 1 _ _ _ h.2.2.1, cell_of_row W _ 2 _ _ _ h.2.2.1, cell_of_row W _ 3 _ _ _ h.2.2.1, cell_of_row W _ 4 _ _ _ h.2.2.1, cell_of_row W _ 5 _ _ _ h.2.2.1⟩
theorem Ts.start (w : World) (T : ByteArray) : Ts w (((w.alloc (pblk ⟨#[]⟩ ⟨#[]⟩ ⟨#[]⟩ ⟨#[]⟩ ⟨#[]⟩ ⟨#[]⟩)).alloc (rdblk T false)).alloc (pblk ⟨#[]⟩ ⟨#[]⟩ ⟨#[]⟩ ⟨#[]⟩ ⟨#[]⟩ ⟨#[]⟩)) T false ⟨#[]⟩ ⟨#[]⟩ ⟨#[]⟩ ⟨#[]⟩ ⟨#[]⟩ ⟨#[]⟩ := by
  refine ⟨(((Below.refl _ _).alloc (Nat.le_refl _) _).alloc (by simp) _).alloc (by simp only [World.size_alloc]; omega) _, ?_, ?_, ?_⟩
  · refine (Below.heap_alloc _ _ _ (by simp)).trans ?_
    have h := heap_alloc_new (w.alloc (pblk ⟨#[]⟩ ⟨#[]⟩ ⟨#[]⟩ ⟨#[]⟩ ⟨#[]⟩ ⟨#[]⟩)) (rdblk T false)
    rw [World.size_alloc] at h
    exact h
  · have h := heap_alloc_new ((w.alloc (pblk ⟨#[]⟩ ⟨#[]⟩ ⟨#[]⟩ ⟨#[]⟩ ⟨#[]⟩ ⟨#[]⟩)).alloc (rdblk T false)) (pblk ⟨#[]⟩ ⟨#[]⟩ ⟨#[]⟩ ⟨#[]⟩ ⟨#[]⟩ ⟨#[]⟩)
    rw [World.size_alloc, World.size_alloc] at h
    exact h
  · exact (Below.heap_alloc _ _ _ (by simp only [World.size_alloc]; omega)).trans ((Below.heap_alloc _ _ _ (by simp)).trans (heap_alloc_new w _))
end

theorem oneR_len (z l : List UInt8) : (oneR z l).length ≤ l.length := by unfold oneR; split <;> simp
theorem dw_len (l : List UInt8) : (dw l).length ≤ l.length := by have h := congrArg List.length (tw_dw l); rw [List.length_append] at h; omega
theorem pret2 {fn : Func} {p q : Tmp} (h : fn.results = #[.cell p 61, .tmp q]) (tmps : Array Value) (w : World) (g : Nat) (cs : Array Value) (hs : cs.size = 6)
    (hp : tmps.getD p undef = .pointer (some ⟨g, 0, none⟩)) (hg : w.heap[g]? = some (.cells cs 61 (0, 0))) : (results fn tmps).run Tryz.prog w = .ok (.tuple #[.agg cs, tmps.getD q undef]) w := by
  rw [results_cell_tmp h, hp]
  simp [asAddr, run_loadVar_row (P := Tryz.prog) w g 61 61 cs (0, 0) _ hg Tryz.underlying61 rfl (by rw [hs]; kernel_rfl), Result.andThen]

theorem rtk_y {l : List UInt8} (h : inS [47] (dw (oneR SG l)) = true) :
    rtk l = (⟨oneT SG l, tw (oneR SG l), tw (oneR [47] (dw (oneR SG l))), [], [], []⟩, (dw (oneR [47] (dw (oneR SG l)))).isEmpty && !((tw (oneR SG l)).isEmpty || (tw (oneR [47] (dw (oneR SG l)))).isEmpty)) := by unfold rtk; rw [if_pos h]
theorem rtk_n {l be l4 es ex l7 : List UInt8} {k2 k3 : Bool} (h : inS [47] (dw (oneR SG l)) = false) (hp : rpt (dw (oneR SG l)) = (be, l4, k2)) (hx : rex l4 = (es, ex, l7, k3)) :
    rtk l = (⟨oneT SG l, tw (oneR SG l), [], be, es, ex⟩, l7.isEmpty && !(((tw (oneR SG l)).isEmpty || k2) || k3)) := by unfold rtk; rw [if_neg (by rw [h]; simp), hp]; simp only []; rw [hx]
theorem rpt_y {m : List UInt8} (h : inS [46] m = true) : rpt m = (tw (oneR [46] m), dw (oneR [46] m), (tw (oneR [46] m)).isEmpty) := by unfold rpt; rw [if_pos h]
theorem rpt_n {m : List UInt8} (h : inS [46] m = false) : rpt m = ([], m, false) := by unfold rpt; rw [if_neg (by rw [h]; simp)]
theorem rex_y {m : List UInt8} (h : inS [101, 69] m = true) : rex m = (oneT SG (oneR [101, 69] m), tw (oneR SG (oneR [101, 69] m)), dw (oneR SG (oneR [101, 69] m)), (tw (oneR SG (oneR [101, 69] m))).isEmpty) := by unfold rex; rw [if_pos h]
theorem rex_n {m : List UInt8} (h : inS [101, 69] m = false) : rex m = ([], [], m, false) := by unfold rex; rw [if_neg (by rw [h]; simp)]
theorem ta_fin {w W : World} {l : List UInt8} {p : Pts} {k : Bool} {a b c d f x : ByteArray} (h : rtk l = (p, k)) (ha : a.data.toList = p.sg) (hb : b.data.toList = p.ah) (hc : c.data.toList = p.un) (hd : d.data.toList = p.be) (hf : f.data.toList = p.es) (hx : x.data.toList = p.ex)
    (hw : Below w.heap.size w W) : TaRet w l (.returned (.tuple #[pv a b c d f x, .bool k])) W := ⟨_, by rw [h], by rw [h]; exact ⟨a, b, c, d, f, x, rfl, ha, hb, hc, hd, hf, hx⟩, hw⟩
theorem PB.cells6 {W : World} {g : Nat} {a b c d f x : ByteArray} (h : PB W g a b c d f x) : W.cell? ⟨g, 0, none⟩ = some (.string a) ∧ W.cell? ⟨g, 1, none⟩ = some (.string b) ∧ W.cell? ⟨g, 2, none⟩ = some (.string c) ∧ W.cell? ⟨g, 3, none⟩ = some (.string d) ∧ W.cell? ⟨g, 4, none⟩ = some (.string f) ∧ W.cell? ⟨g, 5, none⟩ = some (.string x) :=
  ⟨cell_of_row W _ 0 _ _ _ h, cell_of_row W _ 1 _ _ _ h, cell_of_row W _ 2 _ _ _ h, cell_of_row W _ 3 _ _ _ h, cell_of_row W _ 4 _ _ _ h, cell_of_row W _ 5 _ _ _ h⟩
theorem PB.drew {W : World} {g : Nat} {a b c d f x : ByteArray} (h : PB W g a b c d f x) : PB W.drew g a b c d f x := h
theorem Ts.fin {w W : World} {T : ByteArray} {r : Bool} {a b c d f x : ByteArray} (h : Ts w W T r a b c d f x) :
    PB (((((((W.setCell ⟨w.heap.size, 0, none⟩ (.string a)).setCell ⟨w.heap.size, 1, none⟩ (.string b)).setCell ⟨w.heap.size, 2, none⟩ (.string c)).setCell ⟨w.heap.size, 3, none⟩ (.string d)).setCell ⟨w.heap.size, 4, none⟩ (.string f)).setCell ⟨w.heap.size, 5, none⟩ (.string x)).drew) w.heap.size a b c d f x ∧
    PB (((((((W.setCell ⟨w.heap.size, 0, none⟩ (.string a)).setCell ⟨w.heap.size, 1, none⟩ (.string b)).setCell ⟨w.heap.size, 2, none⟩ (.string c)).setCell ⟨w.heap.size, 3, none⟩ (.string d)).setCell ⟨w.heap.size, 4, none⟩ (.string f)).setCell ⟨w.heap.size, 5, none⟩ (.string x)).drew) (w.heap.size + 1 + 1) a b c d f x ∧
    Below w.heap.size w (((((((W.setCell ⟨w.heap.size, 0, none⟩ (.string a)).setCell ⟨w.heap.size, 1, none⟩ (.string b)).setCell ⟨w.heap.size, 2, none⟩ (.string c)).setCell ⟨w.heap.size, 3, none⟩ (.string d)).setCell ⟨w.heap.size, 4, none⟩ (.string f)).setCell ⟨w.heap.size, 5, none⟩ (.string x)).drew) := by
  obtain ⟨h1, h2, h3, h4⟩ := h
  have ne : ∀ (V : World) (j : Nat) (v : Value), PB V (w.heap.size + 1 + 1) a b c d f x → PB (V.setCell ⟨w.heap.size, j, none⟩ v) (w.heap.size + 1 + 1) a b c d f x :=
    fun V j v h => (Below.heap_setCell V _ _ _ (show w.heap.size + 1 + 1 ≠ w.heap.size by omega)).trans h
  have le : w.heap.size ≤ w.heap.size := Nat.le_refl _
  refine ⟨PB.drew ?_, PB.drew (ne _ _ _ (ne _ _ _ (ne _ _ _ (ne _ _ _ (ne _ _ _ (ne _ _ _ h3)))))), ((((((h1.setCell le _).setCell le _).setCell le _).setCell le _).setCell le _).setCell le _).drew⟩
  exact heap_setCell_same _ _ 5 _ _ _ (heap_setCell_same _ _ 4 _ _ _ (heap_setCell_same _ _ 3 _ _ _ (heap_setCell_same _ _ 2 _ _ _ (heap_setCell_same _ _ 1 _ _ _ (heap_setCell_same W _ 0 _ _ _ h4)))))
theorem oneT_emp (z l : List UInt8) : (oneT z l).isEmpty = !inS z l := by
  unfold oneT
  cases h : inS z l
  · rfl
  · cases l with
    | nil => cases h
    | cons => rfl
theorem Ts.drew {w W : World} {T : ByteArray} {r : Bool} {a b c d f x : ByteArray} (h : Ts w W T r a b c d f x) : Ts w W.drew T r a b c d f x := ⟨h.1.drew, h.2.1, h.2.2.1, h.2.2.2⟩
theorem Ts.rfz {w W : World} {T : ByteArray} {r : Bool} {a b c d f x : ByteArray} (h : Ts w W T r a b c d f x) (j : Nat) : W.frozen? ⟨w.heap.size, j, none⟩ = false := frozen_of_row W _ j _ _ h.2.2.2
theorem Ts.rcells {w W : World} {T : ByteArray} {r : Bool} {a b c d f x : ByteArray} (h : Ts w W T r a b c d f x) : W.cell? ⟨w.heap.size, 0, none⟩ = some (.string ⟨#[]⟩) ∧ W.cell? ⟨w.heap.size, 1, none⟩ = some (.string ⟨#[]⟩) ∧ W.cell? ⟨w.heap.size, 2, none⟩ = some (.string ⟨#[]⟩) ∧ W.cell? ⟨w.heap.size, 3, none⟩ = some (.string ⟨#[]⟩) ∧ W.cell? ⟨w.heap.size, 4, none⟩ = some (.string ⟨#[]⟩) ∧ W.cell? ⟨w.heap.size, 5, none⟩ = some (.string ⟨#[]⟩) :=
  ⟨cell_of_row W _ 0 _ _ _ h.2.2.2, cell_of_row W _ 1 _ _ _ h.2.2.2, cell_of_row W _ 2 _ _ _ h.2.2.2, cell_of_row W _ 3 _ _ _ h.2.2.2, cell_of_row W _ 4 _ _ _ h.2.2.2, cell_of_row W _ 5 _ _ _ h.2.2.2⟩

set_option maxHeartbeats 4000000 in
theorem apart_any (T : ByteArray) (w : World) (hT : T.size ≤ 9223372036854775807) : Calls Tryz.prog 29 #[.string T] w (TaRet w T.data.toList) := by
  obtain ⟨l, hl⟩ : ∃ l, T.data.toList = l := ⟨_, rfl⟩
  have S := hide (Ts.start w T)
  have HL := hide hl
  have HT := hide hT
  rw [hl]
  clear hl hT
  go_enter Tryz.func29, Tryz.ntmps29
  go_wp2_with fail
  refine (one_any (Z := ⟨#[43, 45]⟩) S.out.2.1 HL.out HT.out).mono ?_
  rintro e w1 ⟨A1, B1, rfl, hA, hB, hR, hG⟩
  replace S := hide (S.out.call hR hG)
  have HA1 := hide (show A1.data.toList = oneT SG (l) from hA)
  replace HT := hide (show B1.size ≤ 9223372036854775807 by have h1 : B1.data.toList = oneR SG (l) := hB; have h2 := oneR_len SG (l); have h3 := HT.out; rw [bsize, HL.out] at h3; rw [bsize, h1]; omega)
  replace HL := hide (show B1.data.toList = oneR SG (l) from hB)
  clear hA hB hR hG
  have p9 := S.out.cells.1
  have f9 := S.out.fz 0
  go_wp2_with fail
  clear p9 f9
  replace S := hide (S.out.put0 A1)
  generalize (w1.setCell ⟨w.heap.size + 1 + 1, 0, none⟩ (.string A1)) = x1 at *
  refine (digits_any S.out.2.1 HL.out HT.out).mono ?_
  rintro e w2 ⟨A2, B2, rfl, hA, hB, hR, hG⟩
  replace S := hide (S.out.call hR hG)
  have HA2 := hide (show A2.data.toList = tw (oneR SG (l)) from hA)
  replace HT := hide (show B2.size ≤ 9223372036854775807 by have h1 : B2.data.toList = dw (oneR SG (l)) := hB; have h2 := dw_len (oneR SG (l)); have h3 := HT.out; rw [bsize, HL.out] at h3; rw [bsize, h1]; omega)
  replace HL := hide (show B2.data.toList = dw (oneR SG (l)) from hB)
  clear hA hB hR hG
  have p9 := S.out.cells.2.1
  have f9 := S.out.fz 1
  go_wp2_with fail
  clear p9 f9
  replace S := hide (S.out.put1 A2)
  generalize (w2.setCell ⟨w.heap.size + 1 + 1, 1, none⟩ (.string A2)) = x2 at *
  refine (one_any (Z := ⟨#[47]⟩) S.out.2.1 HL.out HT.out).mono ?_
  rintro e w3 ⟨A3, B3, rfl, hA, hB, hR, hG⟩
  replace S := hide (S.out.call hR hG)
  have HA3 := hide (show A3.data.toList = oneT [47] (dw (oneR SG (l))) from hA)
  replace HT := hide (show B3.size ≤ 9223372036854775807 by have h1 : B3.data.toList = oneR [47] (dw (oneR SG (l))) := hB; have h2 := oneR_len [47] (dw (oneR SG (l))); have h3 := HT.out; rw [bsize, HL.out] at h3; rw [bsize, h1]; omega)
  replace HL := hide (show B3.data.toList = oneR [47] (dw (oneR SG (l))) from hB)
  clear hA hB hR hG
  have e9 : A3.toList.isEmpty = !inS [47] (dw (oneR SG (l))) := by rw [toList_data, HA3.out]; exact oneT_emp _ _
  cases h3 : inS [47] (dw (oneR SG (l)))
  · rw [h3] at e9
    have t9 : A3.toList.isEmpty = true := e9
    clear e9
    have H3 := hide h3
    clear h3
    replace HL := hide (HL.out.trans (oneR_not H3.out).1)
    go_wp2_with fail
    clear t9
    refine (one_any (Z := ⟨#[46]⟩) S.out.2.1 HL.out HT.out).mono ?_
    rintro e w4 ⟨A4, B4, rfl, hA, hB, hR, hG⟩
    replace S := hide (S.out.call hR hG)
    have HA4 := hide (show A4.data.toList = oneT [46] (dw (oneR SG (l))) from hA)
    replace HT := hide (show B4.size ≤ 9223372036854775807 by have h1 : B4.data.toList = oneR [46] (dw (oneR SG (l))) := hB; have h2 := oneR_len [46] (dw (oneR SG (l))); have h3 := HT.out; rw [bsize, HL.out] at h3; rw [bsize, h1]; omega)
    replace HL := hide (show B4.data.toList = oneR [46] (dw (oneR SG (l))) from hB)
    clear hA hB hR hG
    have e9 : A4.toList.isEmpty = !inS [46] (dw (oneR SG (l))) := by rw [toList_data, HA4.out]; exact oneT_emp _ _
    cases h4 : inS [46] (dw (oneR SG (l)))
    · rw [h4] at e9
      have t9 : A4.toList.isEmpty = true := e9
      clear e9
      have H4 := hide h4
      clear h4
      replace HL := hide (HL.out.trans (oneR_not H4.out).1)
      go_wp2_with fail
      clear t9
      refine (one_any (Z := ⟨#[101, 69]⟩) S.out.2.1 HL.out HT.out).mono ?_
      rintro e w5 ⟨A5, B5, rfl, hA, hB, hR, hG⟩
      replace S := hide (S.out.call hR hG)
      have HA5 := hide (show A5.data.toList = oneT [101, 69] (dw (oneR SG (l))) from hA)
      replace HT := hide (show B5.size ≤ 9223372036854775807 by have h1 : B5.data.toList = oneR [101, 69] (dw (oneR SG (l))) := hB; have h2 := oneR_len [101, 69] (dw (oneR SG (l))); have h3 := HT.out; rw [bsize, HL.out] at h3; rw [bsize, h1]; omega)
      replace HL := hide (show B5.data.toList = oneR [101, 69] (dw (oneR SG (l))) from hB)
      clear hA hB hR hG
      have e9 : A5.toList.isEmpty = !inS [101, 69] (dw (oneR SG (l))) := by rw [toList_data, HA5.out]; exact oneT_emp _ _
      cases h5 : inS [101, 69] (dw (oneR SG (l)))
      · rw [h5] at e9
        have t9 : A5.toList.isEmpty = true := e9
        clear e9
        have H5 := hide h5
        clear h5
        replace HL := hide (HL.out.trans (oneR_not H5.out).1)
        go_wp2_with fail
        clear t9
        have DN := hide (done_any S.out.drew.2.1 HL.out)
        obtain ⟨k9, hk9⟩ : ∃ k : Bool, ((dw (oneR SG (l))).isEmpty && !(false || (tw (oneR SG (l))).isEmpty)) = k := ⟨_, rfl⟩
        rw [hk9] at DN
        have QQ := hide ((rtk_n H3.out (rpt_n H4.out) (rex_n H5.out)).trans (congrArg (Prod.mk _) (show _ = k9 by rw [← hk9]; simp only [Bool.false_or, Bool.or_false])))
        clear hk9
        obtain ⟨p0, p1, p2, p3, p4, p5⟩ := S.out.drew.cells
        obtain ⟨c0, c1, c2, c3, c4, c5⟩ := S.out.drew.rcells
        have fz := S.out.drew.rfz
        have f0 := fz 0; have f1 := fz 1; have f2 := fz 2; have f3 := fz 3; have f4 := fz 4; have f5 := fz 5
        clear fz
        obtain ⟨d0, d1, d2, d3, d4, d5⟩ := S.out.rcells
        have fz := S.out.rfz
        have g0 := fz 0; have g1 := fz 1; have g2 := fz 2; have g3 := fz 3; have g4 := fz 4; have g5 := fz 5
        clear fz
        have SD := hide S.out.drew
        have SU := S
        clear S
        refine wp_region_held_drew (S := fun W => W.cell? ⟨w.heap.size + 1 + 1, 0, none⟩ = some (.string A1) ∧ W.cell? ⟨w.heap.size + 1 + 1, 1, none⟩ = some (.string A2) ∧ W.cell? ⟨w.heap.size + 1 + 1, 2, none⟩ = some (.string ⟨#[]⟩) ∧ W.cell? ⟨w.heap.size + 1 + 1, 3, none⟩ = some (.string ⟨#[]⟩) ∧ W.cell? ⟨w.heap.size + 1 + 1, 4, none⟩ = some (.string ⟨#[]⟩) ∧ W.cell? ⟨w.heap.size + 1 + 1, 5, none⟩ = some (.string ⟨#[]⟩)) (by kernel_rfl) ⟨p0, p1, p2, p3, p4, p5⟩ (fun hHeld => ?_)
        refine wpAnyH_take (i := 0) (v := ?_) rfl (by kernel_rfl) (by kernel_rfl) (by kernel_rfl) (fun _ _ _ h => h) (Or.inl ⟨?_, ?_⟩) (by assumption) ?_
        rotate_left
        · rfl
        · (intro w hSw; obtain ⟨e0, e1, e2, e3, e4, e5⟩ := hSw; go_simp; try with_reducible rfl)
        (try simp only [Act.put, List.setIfInBounds_toArray, List.set_cons_zero, List.set_cons_succ, List.getElem_toArray, List.getElem_cons_zero, List.getElem_cons_succ])
        refine wpAnyH_ready (rs := [1]) (by kernel_rfl) (by simp) ?_
        refine AllReadyH.cons rfl (fun K hK => ?_) ?_
        rotate_left
        · exact AllReadyH.nil
        go_simp
        go_at_call 50
        refine Calls.mono DN.out ?_
        rintro e wx ⟨rfl, rfl⟩
        try dsimp only
        refine hK.out _ _ ⟨p0, p1, p2, p3, p4, p5⟩ (fun hHeld => ?_)
        clear hK K
        (try simp only [Act.put, List.setIfInBounds_toArray, List.set_cons_zero, List.set_cons_succ, List.getElem_toArray, List.getElem_cons_zero, List.getElem_cons_succ])
        refine wpAnyH_ready (rs := [2]) (by kernel_rfl) (by simp) ?_
        refine AllReadyH.cons rfl (fun K hK => ?_) ?_
        rotate_left
        · exact AllReadyH.nil
        go_simp
        obtain ⟨n9, m9, b9⟩ := SU.out.fin
        have N9 := hide n9
        refine hK.out _ _ m9.cells6 (fun hHeld => ?_)
        clear hK K n9 m9 p0 p1 p2 p3 p4 p5 c0 c1 c2 c3 c4 c5 d0 d1 d2 d3 d4 d5 f0 f1 f2 f3 f4 f5 g0 g1 g2 g3 g4 g5
        (try simp only [Act.put, List.setIfInBounds_toArray, List.set_cons_zero, List.set_cons_succ, List.getElem_toArray, List.getElem_cons_zero, List.getElem_cons_succ])
        refine wpAnyH_take (i := 3) (v := ?_) rfl (by kernel_rfl) (by kernel_rfl) (by kernel_rfl) (fun _ _ _ h => h) (Or.inl ⟨?_, ?_⟩) (by assumption) ?_
        rotate_left
        · rfl
        · (intro w hSw; go_simp; try with_reducible rfl)
        (try simp only [Act.put, List.setIfInBounds_toArray, List.set_cons_zero, List.set_cons_succ, List.getElem_toArray, List.getElem_cons_zero, List.getElem_cons_succ])
        refine wpAnyH_done (by kernel_rfl) ?_ _
        clear hHeld
        have FIN := hide (ta_fin (a := A1) (b := A2) (c := ⟨#[]⟩) (d := ⟨#[]⟩) (f := ⟨#[]⟩) (x := ⟨#[]⟩) QQ.out HA1.out HA2.out rfl rfl rfl rfl b9)
        clear SU SD b9 DN
        generalize (((((World.setCell _ _ _).setCell _ _).setCell _ _).setCell _ _).setCell _ _).setCell _ _ = y9 at *
        go_wp2_with fail
        exact bodyPost_ret (pret2 (p := 2) (q := 3) rfl _ _ _ #[.string A1, .string A2, .string ⟨#[]⟩, .string ⟨#[]⟩, .string ⟨#[]⟩, .string ⟨#[]⟩] rfl rfl N9.out) rfl FIN.out
      · rw [h5] at e9
        have t9 : A5.toList.isEmpty = false := e9
        clear e9
        have H5 := hide h5
        clear h5
        go_wp2_with fail
        clear t9
        refine (one_any (Z := ⟨#[43, 45]⟩) S.out.2.1 HL.out HT.out).mono ?_
        rintro e w6 ⟨A6, B6, rfl, hA, hB, hR, hG⟩
        replace S := hide (S.out.call hR hG)
        have HA6 := hide (show A6.data.toList = oneT SG (oneR [101, 69] (dw (oneR SG (l)))) from hA)
        replace HT := hide (show B6.size ≤ 9223372036854775807 by have h1 : B6.data.toList = oneR SG (oneR [101, 69] (dw (oneR SG (l)))) := hB; have h2 := oneR_len SG (oneR [101, 69] (dw (oneR SG (l)))); have h3 := HT.out; rw [bsize, HL.out] at h3; rw [bsize, h1]; omega)
        replace HL := hide (show B6.data.toList = oneR SG (oneR [101, 69] (dw (oneR SG (l)))) from hB)
        clear hA hB hR hG
        have p9 := S.out.cells.2.2.2.2.1
        have f9 := S.out.fz 4
        go_wp2_with fail
        clear p9 f9
        replace S := hide (S.out.put4 A6)
        generalize (w6.setCell ⟨w.heap.size + 1 + 1, 4, none⟩ (.string A6)) = x6 at *
        refine (digits_any S.out.2.1 HL.out HT.out).mono ?_
        rintro e w7 ⟨A7, B7, rfl, hA, hB, hR, hG⟩
        replace S := hide (S.out.call hR hG)
        have HA7 := hide (show A7.data.toList = tw (oneR SG (oneR [101, 69] (dw (oneR SG (l))))) from hA)
        replace HT := hide (show B7.size ≤ 9223372036854775807 by have h1 : B7.data.toList = dw (oneR SG (oneR [101, 69] (dw (oneR SG (l))))) := hB; have h2 := dw_len (oneR SG (oneR [101, 69] (dw (oneR SG (l))))); have h3 := HT.out; rw [bsize, HL.out] at h3; rw [bsize, h1]; omega)
        replace HL := hide (show B7.data.toList = dw (oneR SG (oneR [101, 69] (dw (oneR SG (l))))) from hB)
        clear hA hB hR hG
        have p9 := S.out.cells.2.2.2.2.2
        have f9 := S.out.fz 5
        go_wp2_with fail
        clear p9 f9
        replace S := hide (S.out.put5 A7)
        generalize (w7.setCell ⟨w.heap.size + 1 + 1, 5, none⟩ (.string A7)) = x7 at *
        have DN := hide (done_any S.out.drew.2.1 HL.out)
        obtain ⟨k9, hk9⟩ : ∃ k : Bool, ((dw (oneR SG (oneR [101, 69] (dw (oneR SG (l)))))).isEmpty && !((false || (tw (oneR SG (l))).isEmpty) || (tw (oneR SG (oneR [101, 69] (dw (oneR SG (l)))))).isEmpty)) = k := ⟨_, rfl⟩
        rw [hk9] at DN
        have QQ := hide ((rtk_n H3.out (rpt_n H4.out) (rex_y H5.out)).trans (congrArg (Prod.mk _) (show _ = k9 by rw [← hk9]; simp only [Bool.false_or, Bool.or_false])))
        clear hk9
        obtain ⟨p0, p1, p2, p3, p4, p5⟩ := S.out.drew.cells
        obtain ⟨c0, c1, c2, c3, c4, c5⟩ := S.out.drew.rcells
        have fz := S.out.drew.rfz
        have f0 := fz 0; have f1 := fz 1; have f2 := fz 2; have f3 := fz 3; have f4 := fz 4; have f5 := fz 5
        clear fz
        obtain ⟨d0, d1, d2, d3, d4, d5⟩ := S.out.rcells
        have fz := S.out.rfz
        have g0 := fz 0; have g1 := fz 1; have g2 := fz 2; have g3 := fz 3; have g4 := fz 4; have g5 := fz 5
        clear fz
        have SD := hide S.out.drew
        have SU := S
        clear S
        refine wp_region_held_drew (S := fun W => W.cell? ⟨w.heap.size + 1 + 1, 0, none⟩ = some (.string A1) ∧ W.cell? ⟨w.heap.size + 1 + 1, 1, none⟩ = some (.string A2) ∧ W.cell? ⟨w.heap.size + 1 + 1, 2, none⟩ = some (.string ⟨#[]⟩) ∧ W.cell? ⟨w.heap.size + 1 + 1, 3, none⟩ = some (.string ⟨#[]⟩) ∧ W.cell? ⟨w.heap.size + 1 + 1, 4, none⟩ = some (.string A6) ∧ W.cell? ⟨w.heap.size + 1 + 1, 5, none⟩ = some (.string A7)) (by kernel_rfl) ⟨p0, p1, p2, p3, p4, p5⟩ (fun hHeld => ?_)
        refine wpAnyH_take (i := 0) (v := ?_) rfl (by kernel_rfl) (by kernel_rfl) (by kernel_rfl) (fun _ _ _ h => h) (Or.inl ⟨?_, ?_⟩) (by assumption) ?_
        rotate_left
        · rfl
        · (intro w hSw; obtain ⟨e0, e1, e2, e3, e4, e5⟩ := hSw; go_simp; try with_reducible rfl)
        (try simp only [Act.put, List.setIfInBounds_toArray, List.set_cons_zero, List.set_cons_succ, List.getElem_toArray, List.getElem_cons_zero, List.getElem_cons_succ])
        refine wpAnyH_ready (rs := [1]) (by kernel_rfl) (by simp) ?_
        refine AllReadyH.cons rfl (fun K hK => ?_) ?_
        rotate_left
        · exact AllReadyH.nil
        go_simp
        go_at_call 50
        refine Calls.mono DN.out ?_
        rintro e wx ⟨rfl, rfl⟩
        try dsimp only
        refine hK.out _ _ ⟨p0, p1, p2, p3, p4, p5⟩ (fun hHeld => ?_)
        clear hK K
        (try simp only [Act.put, List.setIfInBounds_toArray, List.set_cons_zero, List.set_cons_succ, List.getElem_toArray, List.getElem_cons_zero, List.getElem_cons_succ])
        refine wpAnyH_ready (rs := [2]) (by kernel_rfl) (by simp) ?_
        refine AllReadyH.cons rfl (fun K hK => ?_) ?_
        rotate_left
        · exact AllReadyH.nil
        go_simp
        obtain ⟨n9, m9, b9⟩ := SU.out.fin
        have N9 := hide n9
        refine hK.out _ _ m9.cells6 (fun hHeld => ?_)
        clear hK K n9 m9 p0 p1 p2 p3 p4 p5 c0 c1 c2 c3 c4 c5 d0 d1 d2 d3 d4 d5 f0 f1 f2 f3 f4 f5 g0 g1 g2 g3 g4 g5
        (try simp only [Act.put, List.setIfInBounds_toArray, List.set_cons_zero, List.set_cons_succ, List.getElem_toArray, List.getElem_cons_zero, List.getElem_cons_succ])
        refine wpAnyH_take (i := 3) (v := ?_) rfl (by kernel_rfl) (by kernel_rfl) (by kernel_rfl) (fun _ _ _ h => h) (Or.inl ⟨?_, ?_⟩) (by assumption) ?_
        rotate_left
        · rfl
        · (intro w hSw; go_simp; try with_reducible rfl)
        (try simp only [Act.put, List.setIfInBounds_toArray, List.set_cons_zero, List.set_cons_succ, List.getElem_toArray, List.getElem_cons_zero, List.getElem_cons_succ])
        refine wpAnyH_done (by kernel_rfl) ?_ _
        clear hHeld
        have FIN := hide (ta_fin (a := A1) (b := A2) (c := ⟨#[]⟩) (d := ⟨#[]⟩) (f := A6) (x := A7) QQ.out HA1.out HA2.out rfl rfl HA6.out HA7.out b9)
        clear SU SD b9 DN
        generalize (((((World.setCell _ _ _).setCell _ _).setCell _ _).setCell _ _).setCell _ _).setCell _ _ = y9 at *
        go_wp2_with fail
        exact bodyPost_ret (pret2 (p := 2) (q := 3) rfl _ _ _ #[.string A1, .string A2, .string ⟨#[]⟩, .string ⟨#[]⟩, .string A6, .string A7] rfl rfl N9.out) rfl FIN.out
    · rw [h4] at e9
      have t9 : A4.toList.isEmpty = false := e9
      clear e9
      have H4 := hide h4
      clear h4
      go_wp2_with fail
      clear t9
      refine (digits_any S.out.2.1 HL.out HT.out).mono ?_
      rintro e w5 ⟨A5, B5, rfl, hA, hB, hR, hG⟩
      replace S := hide (S.out.call hR hG)
      have HA5 := hide (show A5.data.toList = tw (oneR [46] (dw (oneR SG (l)))) from hA)
      replace HT := hide (show B5.size ≤ 9223372036854775807 by have h1 : B5.data.toList = dw (oneR [46] (dw (oneR SG (l)))) := hB; have h2 := dw_len (oneR [46] (dw (oneR SG (l)))); have h3 := HT.out; rw [bsize, HL.out] at h3; rw [bsize, h1]; omega)
      replace HL := hide (show B5.data.toList = dw (oneR [46] (dw (oneR SG (l)))) from hB)
      clear hA hB hR hG
      have p9 := S.out.cells.2.2.2.1
      have f9 := S.out.fz 3
      go_wp2_with fail
      clear p9 f9
      replace S := hide (S.out.put3 A5)
      generalize (w5.setCell ⟨w.heap.size + 1 + 1, 3, none⟩ (.string A5)) = x5 at *
      refine (one_any (Z := ⟨#[101, 69]⟩) S.out.2.1 HL.out HT.out).mono ?_
      rintro e w6 ⟨A6, B6, rfl, hA, hB, hR, hG⟩
      replace S := hide (S.out.call hR hG)
      have HA6 := hide (show A6.data.toList = oneT [101, 69] (dw (oneR [46] (dw (oneR SG (l))))) from hA)
      replace HT := hide (show B6.size ≤ 9223372036854775807 by have h1 : B6.data.toList = oneR [101, 69] (dw (oneR [46] (dw (oneR SG (l))))) := hB; have h2 := oneR_len [101, 69] (dw (oneR [46] (dw (oneR SG (l))))); have h3 := HT.out; rw [bsize, HL.out] at h3; rw [bsize, h1]; omega)
      replace HL := hide (show B6.data.toList = oneR [101, 69] (dw (oneR [46] (dw (oneR SG (l))))) from hB)
      clear hA hB hR hG
      have e9 : A6.toList.isEmpty = !inS [101, 69] (dw (oneR [46] (dw (oneR SG (l))))) := by rw [toList_data, HA6.out]; exact oneT_emp _ _
      cases h6 : inS [101, 69] (dw (oneR [46] (dw (oneR SG (l)))))
      · rw [h6] at e9
        have t9 : A6.toList.isEmpty = true := e9
        clear e9
        have H6 := hide h6
        clear h6
        replace HL := hide (HL.out.trans (oneR_not H6.out).1)
        go_wp2_with fail
        clear t9
        have DN := hide (done_any S.out.drew.2.1 HL.out)
        obtain ⟨k9, hk9⟩ : ∃ k : Bool, ((dw (oneR [46] (dw (oneR SG (l))))).isEmpty && !((false || (tw (oneR SG (l))).isEmpty) || (tw (oneR [46] (dw (oneR SG (l))))).isEmpty)) = k := ⟨_, rfl⟩
        rw [hk9] at DN
        have QQ := hide ((rtk_n H3.out (rpt_y H4.out) (rex_n H6.out)).trans (congrArg (Prod.mk _) (show _ = k9 by rw [← hk9]; simp only [Bool.false_or, Bool.or_false])))
        clear hk9
        obtain ⟨p0, p1, p2, p3, p4, p5⟩ := S.out.drew.cells
        obtain ⟨c0, c1, c2, c3, c4, c5⟩ := S.out.drew.rcells
        have fz := S.out.drew.rfz
        have f0 := fz 0; have f1 := fz 1; have f2 := fz 2; have f3 := fz 3; have f4 := fz 4; have f5 := fz 5
        clear fz
        obtain ⟨d0, d1, d2, d3, d4, d5⟩ := S.out.rcells
        have fz := S.out.rfz
        have g0 := fz 0; have g1 := fz 1; have g2 := fz 2; have g3 := fz 3; have g4 := fz 4; have g5 := fz 5
        clear fz
        have SD := hide S.out.drew
        have SU := S
        clear S
        refine wp_region_held_drew (S := fun W => W.cell? ⟨w.heap.size + 1 + 1, 0, none⟩ = some (.string A1) ∧ W.cell? ⟨w.heap.size + 1 + 1, 1, none⟩ = some (.string A2) ∧ W.cell? ⟨w.heap.size + 1 + 1, 2, none⟩ = some (.string ⟨#[]⟩) ∧ W.cell? ⟨w.heap.size + 1 + 1, 3, none⟩ = some (.string A5) ∧ W.cell? ⟨w.heap.size + 1 + 1, 4, none⟩ = some (.string ⟨#[]⟩) ∧ W.cell? ⟨w.heap.size + 1 + 1, 5, none⟩ = some (.string ⟨#[]⟩)) (by kernel_rfl) ⟨p0, p1, p2, p3, p4, p5⟩ (fun hHeld => ?_)
        refine wpAnyH_take (i := 0) (v := ?_) rfl (by kernel_rfl) (by kernel_rfl) (by kernel_rfl) (fun _ _ _ h => h) (Or.inl ⟨?_, ?_⟩) (by assumption) ?_
        rotate_left
        · rfl
        · (intro w hSw; obtain ⟨e0, e1, e2, e3, e4, e5⟩ := hSw; go_simp; try with_reducible rfl)
        (try simp only [Act.put, List.setIfInBounds_toArray, List.set_cons_zero, List.set_cons_succ, List.getElem_toArray, List.getElem_cons_zero, List.getElem_cons_succ])
        refine wpAnyH_ready (rs := [1]) (by kernel_rfl) (by simp) ?_
        refine AllReadyH.cons rfl (fun K hK => ?_) ?_
        rotate_left
        · exact AllReadyH.nil
        go_simp
        go_at_call 50
        refine Calls.mono DN.out ?_
        rintro e wx ⟨rfl, rfl⟩
        try dsimp only
        refine hK.out _ _ ⟨p0, p1, p2, p3, p4, p5⟩ (fun hHeld => ?_)
        clear hK K
        (try simp only [Act.put, List.setIfInBounds_toArray, List.set_cons_zero, List.set_cons_succ, List.getElem_toArray, List.getElem_cons_zero, List.getElem_cons_succ])
        refine wpAnyH_ready (rs := [2]) (by kernel_rfl) (by simp) ?_
        refine AllReadyH.cons rfl (fun K hK => ?_) ?_
        rotate_left
        · exact AllReadyH.nil
        go_simp
        obtain ⟨n9, m9, b9⟩ := SU.out.fin
        have N9 := hide n9
        refine hK.out _ _ m9.cells6 (fun hHeld => ?_)
        clear hK K n9 m9 p0 p1 p2 p3 p4 p5 c0 c1 c2 c3 c4 c5 d0 d1 d2 d3 d4 d5 f0 f1 f2 f3 f4 f5 g0 g1 g2 g3 g4 g5
        (try simp only [Act.put, List.setIfInBounds_toArray, List.set_cons_zero, List.set_cons_succ, List.getElem_toArray, List.getElem_cons_zero, List.getElem_cons_succ])
        refine wpAnyH_take (i := 3) (v := ?_) rfl (by kernel_rfl) (by kernel_rfl) (by kernel_rfl) (fun _ _ _ h => h) (Or.inl ⟨?_, ?_⟩) (by assumption) ?_
        rotate_left
        · rfl
        · (intro w hSw; go_simp; try with_reducible rfl)
        (try simp only [Act.put, List.setIfInBounds_toArray, List.set_cons_zero, List.set_cons_succ, List.getElem_toArray, List.getElem_cons_zero, List.getElem_cons_succ])
        refine wpAnyH_done (by kernel_rfl) ?_ _
        clear hHeld
        have FIN := hide (ta_fin (a := A1) (b := A2) (c := ⟨#[]⟩) (d := A5) (f := ⟨#[]⟩) (x := ⟨#[]⟩) QQ.out HA1.out HA2.out rfl HA5.out rfl rfl b9)
        clear SU SD b9 DN
        generalize (((((World.setCell _ _ _).setCell _ _).setCell _ _).setCell _ _).setCell _ _).setCell _ _ = y9 at *
        go_wp2_with fail
        exact bodyPost_ret (pret2 (p := 2) (q := 3) rfl _ _ _ #[.string A1, .string A2, .string ⟨#[]⟩, .string A5, .string ⟨#[]⟩, .string ⟨#[]⟩] rfl rfl N9.out) rfl FIN.out
      · rw [h6] at e9
        have t9 : A6.toList.isEmpty = false := e9
        clear e9
        have H6 := hide h6
        clear h6
        go_wp2_with fail
        clear t9
        refine (one_any (Z := ⟨#[43, 45]⟩) S.out.2.1 HL.out HT.out).mono ?_
        rintro e w7 ⟨A7, B7, rfl, hA, hB, hR, hG⟩
        replace S := hide (S.out.call hR hG)
        have HA7 := hide (show A7.data.toList = oneT SG (oneR [101, 69] (dw (oneR [46] (dw (oneR SG (l)))))) from hA)
        replace HT := hide (show B7.size ≤ 9223372036854775807 by have h1 : B7.data.toList = oneR SG (oneR [101, 69] (dw (oneR [46] (dw (oneR SG (l)))))) := hB; have h2 := oneR_len SG (oneR [101, 69] (dw (oneR [46] (dw (oneR SG (l)))))); have h3 := HT.out; rw [bsize, HL.out] at h3; rw [bsize, h1]; omega)
        replace HL := hide (show B7.data.toList = oneR SG (oneR [101, 69] (dw (oneR [46] (dw (oneR SG (l)))))) from hB)
        clear hA hB hR hG
        have p9 := S.out.cells.2.2.2.2.1
        have f9 := S.out.fz 4
        go_wp2_with fail
        clear p9 f9
        replace S := hide (S.out.put4 A7)
        generalize (w7.setCell ⟨w.heap.size + 1 + 1, 4, none⟩ (.string A7)) = x7 at *
        refine (digits_any S.out.2.1 HL.out HT.out).mono ?_
        rintro e w8 ⟨A8, B8, rfl, hA, hB, hR, hG⟩
        replace S := hide (S.out.call hR hG)
        have HA8 := hide (show A8.data.toList = tw (oneR SG (oneR [101, 69] (dw (oneR [46] (dw (oneR SG (l))))))) from hA)
        replace HT := hide (show B8.size ≤ 9223372036854775807 by have h1 : B8.data.toList = dw (oneR SG (oneR [101, 69] (dw (oneR [46] (dw (oneR SG (l))))))) := hB; have h2 := dw_len (oneR SG (oneR [101, 69] (dw (oneR [46] (dw (oneR SG (l))))))); have h3 := HT.out; rw [bsize, HL.out] at h3; rw [bsize, h1]; omega)
        replace HL := hide (show B8.data.toList = dw (oneR SG (oneR [101, 69] (dw (oneR [46] (dw (oneR SG (l))))))) from hB)
        clear hA hB hR hG
        have p9 := S.out.cells.2.2.2.2.2
        have f9 := S.out.fz 5
        go_wp2_with fail
        clear p9 f9
        replace S := hide (S.out.put5 A8)
        generalize (w8.setCell ⟨w.heap.size + 1 + 1, 5, none⟩ (.string A8)) = x8 at *
        have DN := hide (done_any S.out.drew.2.1 HL.out)
        obtain ⟨k9, hk9⟩ : ∃ k : Bool, ((dw (oneR SG (oneR [101, 69] (dw (oneR [46] (dw (oneR SG (l)))))))).isEmpty && !(((false || (tw (oneR SG (l))).isEmpty) || (tw (oneR [46] (dw (oneR SG (l))))).isEmpty) || (tw (oneR SG (oneR [101, 69] (dw (oneR [46] (dw (oneR SG (l)))))))).isEmpty)) = k := ⟨_, rfl⟩
        rw [hk9] at DN
        have QQ := hide ((rtk_n H3.out (rpt_y H4.out) (rex_y H6.out)).trans (congrArg (Prod.mk _) (show _ = k9 by rw [← hk9]; simp only [Bool.false_or, Bool.or_false])))
        clear hk9
        obtain ⟨p0, p1, p2, p3, p4, p5⟩ := S.out.drew.cells
        obtain ⟨c0, c1, c2, c3, c4, c5⟩ := S.out.drew.rcells
        have fz := S.out.drew.rfz
        have f0 := fz 0; have f1 := fz 1; have f2 := fz 2; have f3 := fz 3; have f4 := fz 4; have f5 := fz 5
        clear fz
        obtain ⟨d0, d1, d2, d3, d4, d5⟩ := S.out.rcells
        have fz := S.out.rfz
        have g0 := fz 0; have g1 := fz 1; have g2 := fz 2; have g3 := fz 3; have g4 := fz 4; have g5 := fz 5
        clear fz
        have SD := hide S.out.drew
        have SU := S
        clear S
        refine wp_region_held_drew (S := fun W => W.cell? ⟨w.heap.size + 1 + 1, 0, none⟩ = some (.string A1) ∧ W.cell? ⟨w.heap.size + 1 + 1, 1, none⟩ = some (.string A2) ∧ W.cell? ⟨w.heap.size + 1 + 1, 2, none⟩ = some (.string ⟨#[]⟩) ∧ W.cell? ⟨w.heap.size + 1 + 1, 3, none⟩ = some (.string A5) ∧ W.cell? ⟨w.heap.size + 1 + 1, 4, none⟩ = some (.string A7) ∧ W.cell? ⟨w.heap.size + 1 + 1, 5, none⟩ = some (.string A8)) (by kernel_rfl) ⟨p0, p1, p2, p3, p4, p5⟩ (fun hHeld => ?_)
        refine wpAnyH_take (i := 0) (v := ?_) rfl (by kernel_rfl) (by kernel_rfl) (by kernel_rfl) (fun _ _ _ h => h) (Or.inl ⟨?_, ?_⟩) (by assumption) ?_
        rotate_left
        · rfl
        · (intro w hSw; obtain ⟨e0, e1, e2, e3, e4, e5⟩ := hSw; go_simp; try with_reducible rfl)
        (try simp only [Act.put, List.setIfInBounds_toArray, List.set_cons_zero, List.set_cons_succ, List.getElem_toArray, List.getElem_cons_zero, List.getElem_cons_succ])
        refine wpAnyH_ready (rs := [1]) (by kernel_rfl) (by simp) ?_
        refine AllReadyH.cons rfl (fun K hK => ?_) ?_
        rotate_left
        · exact AllReadyH.nil
        go_simp
        go_at_call 50
        refine Calls.mono DN.out ?_
        rintro e wx ⟨rfl, rfl⟩
        try dsimp only
        refine hK.out _ _ ⟨p0, p1, p2, p3, p4, p5⟩ (fun hHeld => ?_)
        clear hK K
        (try simp only [Act.put, List.setIfInBounds_toArray, List.set_cons_zero, List.set_cons_succ, List.getElem_toArray, List.getElem_cons_zero, List.getElem_cons_succ])
        refine wpAnyH_ready (rs := [2]) (by kernel_rfl) (by simp) ?_
        refine AllReadyH.cons rfl (fun K hK => ?_) ?_
        rotate_left
        · exact AllReadyH.nil
        go_simp
        obtain ⟨n9, m9, b9⟩ := SU.out.fin
        have N9 := hide n9
        refine hK.out _ _ m9.cells6 (fun hHeld => ?_)
        clear hK K n9 m9 p0 p1 p2 p3 p4 p5 c0 c1 c2 c3 c4 c5 d0 d1 d2 d3 d4 d5 f0 f1 f2 f3 f4 f5 g0 g1 g2 g3 g4 g5
        (try simp only [Act.put, List.setIfInBounds_toArray, List.set_cons_zero, List.set_cons_succ, List.getElem_toArray, List.getElem_cons_zero, List.getElem_cons_succ])
        refine wpAnyH_take (i := 3) (v := ?_) rfl (by kernel_rfl) (by kernel_rfl) (by kernel_rfl) (fun _ _ _ h => h) (Or.inl ⟨?_, ?_⟩) (by assumption) ?_
        rotate_left
        · rfl
        · (intro w hSw; go_simp; try with_reducible rfl)
        (try simp only [Act.put, List.setIfInBounds_toArray, List.set_cons_zero, List.set_cons_succ, List.getElem_toArray, List.getElem_cons_zero, List.getElem_cons_succ])
        refine wpAnyH_done (by kernel_rfl) ?_ _
        clear hHeld
        have FIN := hide (ta_fin (a := A1) (b := A2) (c := ⟨#[]⟩) (d := A5) (f := A7) (x := A8) QQ.out HA1.out HA2.out rfl HA5.out HA7.out HA8.out b9)
        clear SU SD b9 DN
        generalize (((((World.setCell _ _ _).setCell _ _).setCell _ _).setCell _ _).setCell _ _).setCell _ _ = y9 at *
        go_wp2_with fail
        exact bodyPost_ret (pret2 (p := 2) (q := 3) rfl _ _ _ #[.string A1, .string A2, .string ⟨#[]⟩, .string A5, .string A7, .string A8] rfl rfl N9.out) rfl FIN.out
  · rw [h3] at e9
    have t9 : A3.toList.isEmpty = false := e9
    clear e9
    have H3 := hide h3
    clear h3
    go_wp2_with fail
    clear t9
    refine (digits_any S.out.2.1 HL.out HT.out).mono ?_
    rintro e w4 ⟨A4, B4, rfl, hA, hB, hR, hG⟩
    replace S := hide (S.out.call hR hG)
    have HA4 := hide (show A4.data.toList = tw (oneR [47] (dw (oneR SG (l)))) from hA)
    replace HT := hide (show B4.size ≤ 9223372036854775807 by have h1 : B4.data.toList = dw (oneR [47] (dw (oneR SG (l)))) := hB; have h2 := dw_len (oneR [47] (dw (oneR SG (l)))); have h3 := HT.out; rw [bsize, HL.out] at h3; rw [bsize, h1]; omega)
    replace HL := hide (show B4.data.toList = dw (oneR [47] (dw (oneR SG (l)))) from hB)
    clear hA hB hR hG
    have p9 := S.out.cells.2.2.1
    have f9 := S.out.fz 2
    go_wp2_with fail
    clear p9 f9
    replace S := hide (S.out.put2 A4)
    generalize (w4.setCell ⟨w.heap.size + 1 + 1, 2, none⟩ (.string A4)) = x4 at *
    have DN := hide (done_any S.out.drew.2.1 HL.out)
    obtain ⟨k9, hk9⟩ : ∃ k : Bool, ((dw (oneR [47] (dw (oneR SG (l))))).isEmpty && !((false || (tw (oneR SG (l))).isEmpty) || (tw (oneR [47] (dw (oneR SG (l))))).isEmpty)) = k := ⟨_, rfl⟩
    rw [hk9] at DN
    have QQ := hide ((rtk_y H3.out).trans (congrArg (Prod.mk _) (show _ = k9 by rw [← hk9]; simp only [Bool.false_or, Bool.or_false])))
    clear hk9
    obtain ⟨p0, p1, p2, p3, p4, p5⟩ := S.out.drew.cells
    obtain ⟨c0, c1, c2, c3, c4, c5⟩ := S.out.drew.rcells
    have fz := S.out.drew.rfz
    have f0 := fz 0; have f1 := fz 1; have f2 := fz 2; have f3 := fz 3; have f4 := fz 4; have f5 := fz 5
    clear fz
    obtain ⟨d0, d1, d2, d3, d4, d5⟩ := S.out.rcells
    have fz := S.out.rfz
    have g0 := fz 0; have g1 := fz 1; have g2 := fz 2; have g3 := fz 3; have g4 := fz 4; have g5 := fz 5
    clear fz
    have SD := hide S.out.drew
    have SU := S
    clear S
    refine wp_region_held_drew (S := fun W => W.cell? ⟨w.heap.size + 1 + 1, 0, none⟩ = some (.string A1) ∧ W.cell? ⟨w.heap.size + 1 + 1, 1, none⟩ = some (.string A2) ∧ W.cell? ⟨w.heap.size + 1 + 1, 2, none⟩ = some (.string A4) ∧ W.cell? ⟨w.heap.size + 1 + 1, 3, none⟩ = some (.string ⟨#[]⟩) ∧ W.cell? ⟨w.heap.size + 1 + 1, 4, none⟩ = some (.string ⟨#[]⟩) ∧ W.cell? ⟨w.heap.size + 1 + 1, 5, none⟩ = some (.string ⟨#[]⟩)) (by kernel_rfl) ⟨p0, p1, p2, p3, p4, p5⟩ (fun hHeld => ?_)
    refine wpAnyH_take (i := 0) (v := ?_) rfl (by kernel_rfl) (by kernel_rfl) (by kernel_rfl) (fun _ _ _ h => h) (Or.inl ⟨?_, ?_⟩) (by assumption) ?_
    rotate_left
    · rfl
    · (intro w hSw; obtain ⟨e0, e1, e2, e3, e4, e5⟩ := hSw; go_simp; try with_reducible rfl)
    (try simp only [Act.put, List.setIfInBounds_toArray, List.set_cons_zero, List.set_cons_succ, List.getElem_toArray, List.getElem_cons_zero, List.getElem_cons_succ])
    refine wpAnyH_ready (rs := [1]) (by kernel_rfl) (by simp) ?_
    refine AllReadyH.cons rfl (fun K hK => ?_) ?_
    rotate_left
    · exact AllReadyH.nil
    go_simp
    go_at_call 50
    refine Calls.mono DN.out ?_
    rintro e wx ⟨rfl, rfl⟩
    try dsimp only
    refine hK.out _ _ ⟨p0, p1, p2, p3, p4, p5⟩ (fun hHeld => ?_)
    clear hK K
    (try simp only [Act.put, List.setIfInBounds_toArray, List.set_cons_zero, List.set_cons_succ, List.getElem_toArray, List.getElem_cons_zero, List.getElem_cons_succ])
    refine wpAnyH_ready (rs := [2]) (by kernel_rfl) (by simp) ?_
    refine AllReadyH.cons rfl (fun K hK => ?_) ?_
    rotate_left
    · exact AllReadyH.nil
    go_simp
    obtain ⟨n9, m9, b9⟩ := SU.out.fin
    have N9 := hide n9
    refine hK.out _ _ m9.cells6 (fun hHeld => ?_)
    clear hK K n9 m9 p0 p1 p2 p3 p4 p5 c0 c1 c2 c3 c4 c5 d0 d1 d2 d3 d4 d5 f0 f1 f2 f3 f4 f5 g0 g1 g2 g3 g4 g5
    (try simp only [Act.put, List.setIfInBounds_toArray, List.set_cons_zero, List.set_cons_succ, List.getElem_toArray, List.getElem_cons_zero, List.getElem_cons_succ])
    refine wpAnyH_take (i := 3) (v := ?_) rfl (by kernel_rfl) (by kernel_rfl) (by kernel_rfl) (fun _ _ _ h => h) (Or.inl ⟨?_, ?_⟩) (by assumption) ?_
    rotate_left
    · rfl
    · (intro w hSw; go_simp; try with_reducible rfl)
    (try simp only [Act.put, List.setIfInBounds_toArray, List.set_cons_zero, List.set_cons_succ, List.getElem_toArray, List.getElem_cons_zero, List.getElem_cons_succ])
    refine wpAnyH_done (by kernel_rfl) ?_ _
    clear hHeld
    have FIN := hide (ta_fin (a := A1) (b := A2) (c := A4) (d := ⟨#[]⟩) (f := ⟨#[]⟩) (x := ⟨#[]⟩) QQ.out HA1.out HA2.out HA4.out rfl rfl rfl b9)
    clear SU SD b9 DN
    generalize (((((World.setCell _ _ _).setCell _ _).setCell _ _).setCell _ _).setCell _ _).setCell _ _ = y9 at *
    go_wp2_with fail
    exact bodyPost_ret (pret2 (p := 2) (q := 3) rfl _ _ _ #[.string A1, .string A2, .string A4, .string ⟨#[]⟩, .string ⟨#[]⟩, .string ⟨#[]⟩] rfl rfl N9.out) rfl FIN.out
end Go.Proofs.YtajjpepjbflojaaGreatDoor
