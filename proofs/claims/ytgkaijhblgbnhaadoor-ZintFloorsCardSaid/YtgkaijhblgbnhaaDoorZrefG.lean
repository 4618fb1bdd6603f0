/-
  The reference of whole numbers: DivFloor.
-/
import Derived.Test.YtgkaijhblgbnhaaDoorLatC
import Derived.Test.YtgkaijhblgbnhaaDoorBundleE


namespace Go.Proofs.YtgkaijhblgbnhaaDoor
open Go.RowKit Go.Proofs.YtgkaijhblgbnhaaDoor.Num
set_option linter.unusedVariables false
set_option linter.unusedSimpArgs false
set_option maxRecDepth 100000

theorem Firm2.ic (v : Value) (x L : Nat) : Firm2 (fun W => Ic W v x L) := ⟨fun _ _ h hb => h.step hb, fun _ _ j u h hn => h.bset hn j u⟩
theorem Sg.push {n0 : Nat} {W0 W : World} {os : List Obj} {gs : List (Option Nat)} {F : World → Prop} (h : Sg n0 W0 W os gs F) (hf : Firm2 F) (o : Obj) (hl : gs.length = os.length) : Sg n0 W0 (W.alloc o) (os ++ [o]) (gs ++ [some W.heap.size]) F := by
  obtain ⟨h1, h2, h3, h4, h5⟩ := h
  have hb : Below W.heap.size W (W.alloc o) := (Below.refl _ _).alloc (Nat.le_refl _) _
  have hlt : ∀ (j g : Nat), gs[j]? = some (some g) → g < W.heap.size := fun j g hj => by
    have hj2 : j < gs.length := (List.getElem?_eq_some_iff.1 hj).1
    exact heap_lt (h4 j g (os[j]'(by omega)) hj (by simp)).1
  have hcase : ∀ (j g : Nat), (gs ++ [some W.heap.size])[j]? = some (some g) → gs[j]? = some (some g) ∨ (j = gs.length ∧ g = W.heap.size) := fun j g hj => by
    rcases Nat.lt_trichotomy j gs.length with h | h | h
    · rw [List.getElem?_append_left h] at hj; exact .inl hj
    · subst h; rw [List.getElem?_append_right (Nat.le_refl _)] at hj; simp at hj; exact .inr ⟨rfl, hj.symm⟩
    · rw [List.getElem?_append_right (by omega)] at hj
      have hz : j - gs.length ≠ 0 := by omega
      obtain ⟨k, hk⟩ := Nat.exists_eq_succ_of_ne_zero hz
      rw [hk] at hj; simp at hj
  refine ⟨h1.alloc h2 _, Nat.le_trans h2 hb.size, hf.1 _ _ h3 hb, fun j g o' hj ho' => ?_, fun j k g hj hk => ?_⟩
  · rcases hcase j g hj with hj | ⟨rfl, rfl⟩
    · have hj2 : j < gs.length := (List.getElem?_eq_some_iff.1 hj).1
      rw [List.getElem?_append_left (by omega)] at ho'
      exact ⟨(hb.block g (hlt j g hj)).trans (h4 j g o' hj ho').1, (h4 j g o' hj ho').2⟩
    · rw [List.getElem?_append_right (by omega), hl, Nat.sub_self] at ho'
      have e : o = o' := by simpa using ho'
      subst e
      exact ⟨heap_alloc_new _ _, h2⟩
  · rcases hcase j g hj with hj | ⟨rfl, rfl⟩
    · rcases hcase k g hk with hk | ⟨rfl, rfl⟩
      · exact h5 j k g hj hk
      · have := hlt j _ hj; omega
    · rcases hcase k _ hk with hk | ⟨rfl, -⟩
      · have := hlt k _ hk; omega
      · rfl
theorem qret22 {fn : Func} {p q : Tmp} (h : fn.results = #[.cell p 33, .cell q 33]) (tmps : Array Value) (w : World) (g1 g2 : Nat) (cs1 cs2 : Array Value) (hs1 : cs1.size = 2) (hs2 : cs2.size = 2)
    (hp : tmps.getD p undef = .pointer (some ⟨g1, 0, none⟩)) (hq : tmps.getD q undef = .pointer (some ⟨g2, 0, none⟩)) (h1 : w.heap[g1]? = some (.cells cs1 33 (0, 0))) (h2 : w.heap[g2]? = some (.cells cs2 33 (0, 0))) :
    (results fn tmps).run Tryd.prog w = .ok (.tuple #[.agg cs1, .agg cs2]) w := by
  have hp' : tmps[p]?.getD undef = .pointer (some ⟨g1, 0, none⟩) := by simpa using hp
  have hq' : tmps[q]?.getD undef = .pointer (some ⟨g2, 0, none⟩) := by simpa using hq
  simp only [results, h]
  simp [Sem.run_bind, Result.andThen, hp', hq', asAddr, run_loadVar_row (P := Tryd.prog) w g1 33 33 cs1 (0, 0) _ h1 Tryd.underlying33 rfl (by rw [hs1]; kernel_rfl), run_loadVar_row (P := Tryd.prog) w g2 33 33 cs2 (0, 0) _ h2 Tryd.underlying33 rfl (by rw [hs2]; kernel_rfl)]
/-- What such a call leaves. -/
def QdRet (w : World) (a b : Int) (K M : Nat) (e : Ending) (w' : World) : Prop := ∃ q r, e = .returned (.tuple #[q, r]) ∧ Qi w' q (zq a b) K ∧ Qi w' r (zr a b) M ∧ Below w.heap.size w w'
theorem qi_mk {w : World} {sg : Bool} {u : Value} {z : Int} {x L : Nat} (h : Ic w u x L) (hs : decide (z < 0) = sg) (hx : z.natAbs = x) : Qi w (zv sg u) z L := ⟨u, by rw [hs], by rw [hx]; exact h⟩

set_option maxHeartbeats 16000000 in
theorem qdivfloor_any {w : World} {u v : Value} {a b : Int} {L : Nat} (hu : Qi w u a L) (hv : Qi w v b L) (hb0 : b ≠ 0) (hL6 : 6 ≤ L) (hL : L ≤ 10000000000) :
    Calls Tryd.prog 14 #[u, v] w (QdRet w a b (L + 1) (L + 1 + L + 1)) := by
  obtain ⟨u, rfl, ia⟩ := id hu
  obtain ⟨v, rfl, ib⟩ := id hv
  obtain ⟨A, n, c, rfl⟩ := ia.iw.slice
  obtain ⟨D, m, d, rfl⟩ := ib.iw.slice
  have hza := zi_self a
  have hzb := zi_self b
  obtain ⟨s, hs⟩ : ∃ s, decide (a < 0) = s := ⟨_, rfl⟩
  obtain ⟨t, ht⟩ : ∃ t, decide (b < 0) = t := ⟨_, rfl⟩
  obtain ⟨x, hx⟩ : ∃ x, a.natAbs = x := ⟨_, rfl⟩
  obtain ⟨y, hy⟩ : ∃ y, b.natAbs = y := ⟨_, rfl⟩
  have hP : 0 < y := by omega
  have HP := hide hP
  have hneg : (-a).natAbs = x := by omega
  have HX := hide hneg
  rw [hs, hx] at hza
  rw [ht, hy] at hzb
  rw [hs] at hu ⊢
  rw [ht] at hv ⊢
  rw [hx] at ia
  rw [hy] at ib
  have hF : (fun W => True ∧ Qi W (zv s (.slice A n c)) a L ∧ Qi W (zv t (.slice D m d)) b L ∧ Ic W (.slice A n c) x L ∧ Ic W (.slice D m d) y L) w := ⟨trivial, hu, hv, ia, ib⟩
  have hf : Firm2 (fun W => True ∧ Qi W (zv s (.slice A n c)) a L ∧ Qi W (zv t (.slice D m d)) b L ∧ Ic W (.slice A n c) x L ∧ Ic W (.slice D m d) y L) := Firm2.and Firm2.yes (Firm2.and (Firm2.qi _ _ _) (Firm2.and (Firm2.qi _ _ _) (Firm2.and (Firm2.ic _ _ _) (Firm2.ic _ _ _))))
  have s0 : Sg w.heap.size w w [] [] (fun W => True ∧ Qi W (zv s (.slice A n c)) a L ∧ Qi W (zv t (.slice D m d)) b L ∧ Ic W (.slice A n c) x L ∧ Ic W (.slice D m d) y L) := ⟨Below.refl _ _, Nat.le_refl _, hF, fun i g o h => by simp at h, fun i j g h => by simp at h⟩
  have s5 := ((((s0.push hf (qbox s (.slice A n c)) rfl).push hf (qbox t (.slice D m d)) rfl).push hf qblk rfl).push hf qblk rfl).push hf (qbox s (.slice A n c)) rfl
  simp only [World.size_alloc, List.nil_append, List.cons_append] at s5
  have ST := hide s5
  obtain ⟨lr, hlr⟩ : ∃ lr, (cn 10000 (x % y)).length = lr := ⟨_, rfl⟩
  have HLR := hide hlr
  have hr0 : x % y = 0 ↔ lr = 0 := by
    rw [← hlr]
    constructor
    · intro h; rw [h, cn_zero]; rfl
    · intro h
      have h2 := List.eq_nil_of_length_eq_zero h
      exact (cn_eq_nil B_two).1 h2
  clear s0 s5 hF hf hlr
  cases t
  · cases s
    · have HZQ : Hid (zq a b = zi false (x / y)) := hide (by rw [← hza, ← hzb]; exact (zq_same hP).1)
      clear hza hzb hs ht hx hy hP hneg hr0 ia ib hu hv hb0
      have st : Hid (Sg w.heap.size w (((((w.alloc (qbox false (.slice A n c))).alloc (qbox false (.slice D m d))).alloc qblk).alloc qblk).alloc (qbox false (.slice A n c))) _ _ _) := ST
      have a0 : (((((w.alloc (qbox false (.slice A n c))).alloc (qbox false (.slice D m d))).alloc qblk).alloc qblk).alloc (qbox false (.slice A n c))).cell? ⟨w.heap.size, 0, none⟩ = some (.bool false) := (Sg.cells st.out 0 _ _ _ rfl rfl 0).1
      have a1 : (((((w.alloc (qbox false (.slice A n c))).alloc (qbox false (.slice D m d))).alloc qblk).alloc qblk).alloc (qbox false (.slice A n c))).cell? ⟨w.heap.size, 1, none⟩ = some (.slice A n c) := (Sg.cells st.out 0 _ _ _ rfl rfl 1).1
      have d0 : (((((w.alloc (qbox false (.slice A n c))).alloc (qbox false (.slice D m d))).alloc qblk).alloc qblk).alloc (qbox false (.slice A n c))).cell? ⟨w.heap.size + 1, 0, none⟩ = some (.bool false) := (Sg.cells st.out 1 _ _ _ rfl rfl 0).1
      have d1 : (((((w.alloc (qbox false (.slice A n c))).alloc (qbox false (.slice D m d))).alloc qblk).alloc qblk).alloc (qbox false (.slice A n c))).cell? ⟨w.heap.size + 1, 1, none⟩ = some (.slice D m d) := (Sg.cells st.out 1 _ _ _ rfl rfl 1).1
      have x0 : (((((w.alloc (qbox false (.slice A n c))).alloc (qbox false (.slice D m d))).alloc qblk).alloc qblk).alloc (qbox false (.slice A n c))).cell? ⟨w.heap.size + 1 + 1 + 1 + 1, 0, none⟩ = some (.bool false) := (Sg.cells st.out 4 _ _ _ rfl rfl 0).1
      have x1 : (((((w.alloc (qbox false (.slice A n c))).alloc (qbox false (.slice D m d))).alloc qblk).alloc qblk).alloc (qbox false (.slice A n c))).cell? ⟨w.heap.size + 1 + 1 + 1 + 1, 1, none⟩ = some (.slice A n c) := (Sg.cells st.out 4 _ _ _ rfl rfl 1).1
      go_enter Tryd.func14, Tryd.ntmps14
      go_wp2_with fail
      generalize hW5 : (((((w.alloc (qbox false (.slice A n c))).alloc (qbox false (.slice D m d))).alloc qblk).alloc qblk).alloc (qbox false (.slice A n c))) = w5 at *
      refine (idivmod (L := L) (M := L) st.out.2.2.1.2.2.2.1 st.out.2.2.1.2.2.2.2.iw HP.out (by omega) (by omega)).mono ?_
      clear a0 a1 d0 d1 x0 x1 hW5
      rintro e w8 ⟨q8, r8, rfl, -, -, iq, ir, bx⟩
      obtain ⟨Aq, nq, cq, rfl⟩ := iq.iw.slice
      obtain ⟨Ar, cr, hr8, -⟩ := id ir
      rw [HLR.out] at hr8
      subst hr8
      have st := hide (Sg.call (G := fun W => Ic W (.slice Aq nq cq) (x / y) L) st.out bx (Firm2.and Firm2.yes (Firm2.and (Firm2.qi _ _ _) (Firm2.and (Firm2.qi _ _ _) (Firm2.and (Firm2.ic _ _ _) (Firm2.ic _ _ _))))) iq)
      clear bx iq ir
      go_wp2_with fail
      refine (form_any (s := false) (z := zi false (x / y)) (L := L) st.out.2.2.1.2.iw (by omega) rfl).mono ?_
      rintro e w9 ⟨v9, rfl, q9, bx⟩
      obtain ⟨s9, x9, A9, n9, c9, rfl, -, -, -⟩ := id q9.parts
      have st := hide (Sg.call (G := fun W => Qi W (zv s9 (.slice A9 n9 c9)) (zi false (x / y)) L) st.out bx (Firm2.and (Firm2.and Firm2.yes (Firm2.and (Firm2.qi _ _ _) (Firm2.and (Firm2.qi _ _ _) (Firm2.and (Firm2.ic _ _ _) (Firm2.ic _ _ _))))) (Firm2.ic _ _ _)) q9)
      have st := hide (Sg.push st.out (Firm2.and (Firm2.and (Firm2.and Firm2.yes (Firm2.and (Firm2.qi _ _ _) (Firm2.and (Firm2.qi _ _ _) (Firm2.and (Firm2.ic _ _ _) (Firm2.ic _ _ _))))) (Firm2.ic _ _ _)) (Firm2.qi _ _ _)) (qbox s9 (.slice A9 n9 c9)) rfl)
      obtain ⟨gz, hgz⟩ : ∃ g, w9.heap.size = g := ⟨_, rfl⟩
      rw [hgz] at st
      have x0 : (w9.alloc (qbox s9 (.slice A9 n9 c9))).cell? ⟨w.heap.size + 1 + 1 + 1 + 1, 0, none⟩ = some (.bool false) := (Sg.cells st.out 4 _ _ _ rfl rfl 0).1
      clear bx q9
      go_wp2_with fail
      generalize hW10 : (w9.alloc (qbox s9 (.slice A9 n9 c9))) = w10 at *
      clear x0 hW10 hgz
      have bx := Below.drew (Below.refl w10.heap.size w10)
      have st := hide (Sg.call (G := fun W => True) st.out bx (Firm2.and (Firm2.and (Firm2.and Firm2.yes (Firm2.and (Firm2.qi _ _ _) (Firm2.and (Firm2.qi _ _ _) (Firm2.and (Firm2.ic _ _ _) (Firm2.ic _ _ _))))) (Firm2.ic _ _ _)) (Firm2.qi _ _ _)) trivial)
      clear bx
      have a0 : w10.drew.cell? ⟨w.heap.size, 0, none⟩ = some (.bool false) := (Sg.cells st.out 0 _ _ _ rfl rfl 0).1
      have a1 : w10.drew.cell? ⟨w.heap.size, 1, none⟩ = some (.slice A n c) := (Sg.cells st.out 0 _ _ _ rfl rfl 1).1
      have d0 : w10.drew.cell? ⟨w.heap.size + 1, 0, none⟩ = some (.bool false) := (Sg.cells st.out 1 _ _ _ rfl rfl 0).1
      have d1 : w10.drew.cell? ⟨w.heap.size + 1, 1, none⟩ = some (.slice D m d) := (Sg.cells st.out 1 _ _ _ rfl rfl 1).1
      have x0 : w10.drew.cell? ⟨gz, 0, none⟩ = some (.bool s9) := (Sg.cells st.out 5 _ _ _ rfl rfl 0).1
      have x1 : w10.drew.cell? ⟨gz, 1, none⟩ = some (.slice A9 n9 c9) := (Sg.cells st.out 5 _ _ _ rfl rfl 1).1
      have hz2 : gz ≠ w.heap.size + 1 + 1 := fun h => absurd (st.out.2.2.2.2 5 2 gz rfl (by rw [h]; rfl)) (by omega)
      have hz3 : gz ≠ w.heap.size + 1 + 1 + 1 := fun h => absurd (st.out.2.2.2.2 5 3 gz rfl (by rw [h]; rfl)) (by omega)
      go_region_held3 (fun W => W.cell? ⟨w.heap.size, 0, none⟩ = some (.bool false) ∧ W.cell? ⟨w.heap.size, 1, none⟩ = some (.slice A n c) ∧ W.cell? ⟨w.heap.size + 1, 0, none⟩ = some (.bool false) ∧ W.cell? ⟨w.heap.size + 1, 1, none⟩ = some (.slice D m d) ∧ W.cell? ⟨gz, 0, none⟩ = some (.bool s9) ∧ W.cell? ⟨gz, 1, none⟩ = some (.slice A9 n9 c9))
        (first | with_reducible exact ⟨a0, a1, d0, d1, x0, x1⟩ | with_reducible exact ⟨cell_keep a0 bx1, cell_keep a1 bx1, cell_keep d0 bx1, cell_keep d1 bx1, cell_keep x0 bx1, cell_keep x1 bx1⟩ | with_reducible exact ⟨cell_keep (cell_keep a0 bx1) bx2, cell_keep (cell_keep a1 bx1) bx2, cell_keep (cell_keep d0 bx1) bx2, cell_keep (cell_keep d1 bx1) bx2, cell_keep (cell_keep x0 bx1) bx2, cell_keep (cell_keep x1 bx1) bx2⟩ | with_reducible exact ⟨cell_zset (cell_keep (cell_keep a0 bx1) bx2) (by simp <;> omega) _ _, cell_zset (cell_keep (cell_keep a1 bx1) bx2) (by simp <;> omega) _ _, cell_zset (cell_keep (cell_keep d0 bx1) bx2) (by simp <;> omega) _ _, cell_zset (cell_keep (cell_keep d1 bx1) bx2) (by simp <;> omega) _ _, cell_zset (cell_keep (cell_keep x0 bx1) bx2) hz2 _ _, cell_zset (cell_keep (cell_keep x1 bx1) bx2) hz2 _ _⟩ | with_reducible exact ⟨cell_zset (cell_zset (cell_keep (cell_keep a0 bx1) bx2) (by simp <;> omega) _ _) (by simp <;> omega) _ _, cell_zset (cell_zset (cell_keep (cell_keep a1 bx1) bx2) (by simp <;> omega) _ _) (by simp <;> omega) _ _, cell_zset (cell_zset (cell_keep (cell_keep d0 bx1) bx2) (by simp <;> omega) _ _) (by simp <;> omega) _ _, cell_zset (cell_zset (cell_keep (cell_keep d1 bx1) bx2) (by simp <;> omega) _ _) (by simp <;> omega) _ _, cell_zset (cell_zset (cell_keep (cell_keep x0 bx1) bx2) hz2 _ _) hz3 _ _, cell_zset (cell_zset (cell_keep (cell_keep x1 bx1) bx2) hz2 _ _) hz3 _ _⟩)
        (first
          | (go_at_call 41; refine Calls.mono (qmul_any (a := zi false (x / y)) (b := b) (L := L + 1) (M := L) (st.out.2.2.1.1.2.more (by omega)) st.out.2.2.1.1.1.1.2.2.1 (by omega) (by omega)) ?_; rintro e w16 ⟨v16, rfl, q16, bx1⟩)
          | (go_at_call 40; refine Calls.mono (qsub_any (a := a) (b := (zi false (x / y)) * b) (L := L) (M := L + 1 + L) (K := L + 1 + L) (st.out.2.2.1.1.1.1.2.1.step bx1) q16 (by omega) (by omega) (by omega)) ?_; rintro e wx ⟨v17, rfl, q17, bx2⟩; obtain ⟨s17, x17, A17, n17, c17, rfl, -, -, -⟩ := id q17.parts; have bx := Below.step1 bx1 bx2; have st := hide (Sg.call (G := fun W => Qi W (zv s17 (.slice A17 n17 c17)) (a - (zi false (x / y)) * b) (L + 1 + L + 1)) st.out bx (Firm2.and (Firm2.and (Firm2.and (Firm2.and Firm2.yes (Firm2.and (Firm2.qi _ _ _) (Firm2.and (Firm2.qi _ _ _) (Firm2.and (Firm2.ic _ _ _) (Firm2.ic _ _ _))))) (Firm2.ic _ _ _)) (Firm2.qi _ _ _)) Firm2.yes) q17); have k0 : wx.cell? ⟨w.heap.size + 1 + 1, 0, none⟩ = some (.bool false) := (Sg.cells st.out 2 _ _ _ rfl rfl 0).1; have k1 : wx.cell? ⟨w.heap.size + 1 + 1, 1, none⟩ = some (.slice none 0 0) := (Sg.cells st.out 2 _ _ _ rfl rfl 1).1; have k2 : wx.cell? ⟨w.heap.size + 1 + 1 + 1, 0, none⟩ = some (.bool false) := (Sg.cells st.out 3 _ _ _ rfl rfl 0).1; have k3 : wx.cell? ⟨w.heap.size + 1 + 1 + 1, 1, none⟩ = some (.slice none 0 0) := (Sg.cells st.out 3 _ _ _ rfl rfl 1).1; have f0 : wx.frozen? ⟨w.heap.size + 1 + 1, 0, none⟩ = false := (Sg.cells st.out 2 _ _ _ rfl rfl 0).2; have f1 : wx.frozen? ⟨w.heap.size + 1 + 1, 1, none⟩ = false := (Sg.cells st.out 2 _ _ _ rfl rfl 1).2; have f2 : wx.frozen? ⟨w.heap.size + 1 + 1 + 1, 0, none⟩ = false := (Sg.cells st.out 3 _ _ _ rfl rfl 0).2; have f3 : wx.frozen? ⟨w.heap.size + 1 + 1 + 1, 1, none⟩ = false := (Sg.cells st.out 3 _ _ _ rfl rfl 1).2; have st := hide (Sg.put st.out (Firm2.and (Firm2.and (Firm2.and (Firm2.and (Firm2.and Firm2.yes (Firm2.and (Firm2.qi _ _ _) (Firm2.and (Firm2.qi _ _ _) (Firm2.and (Firm2.ic _ _ _) (Firm2.ic _ _ _))))) (Firm2.ic _ _ _)) (Firm2.qi _ _ _)) Firm2.yes) (Firm2.qi _ _ _)) 2 _ 0 _ _ (.bool s9) rfl rfl rfl); have st := hide (Sg.put st.out (Firm2.and (Firm2.and (Firm2.and (Firm2.and (Firm2.and Firm2.yes (Firm2.and (Firm2.qi _ _ _) (Firm2.and (Firm2.qi _ _ _) (Firm2.and (Firm2.ic _ _ _) (Firm2.ic _ _ _))))) (Firm2.ic _ _ _)) (Firm2.qi _ _ _)) Firm2.yes) (Firm2.qi _ _ _)) 2 _ 1 _ _ (.slice A9 n9 c9) rfl rfl rfl); have st := hide (Sg.put st.out (Firm2.and (Firm2.and (Firm2.and (Firm2.and (Firm2.and Firm2.yes (Firm2.and (Firm2.qi _ _ _) (Firm2.and (Firm2.qi _ _ _) (Firm2.and (Firm2.ic _ _ _) (Firm2.ic _ _ _))))) (Firm2.ic _ _ _)) (Firm2.qi _ _ _)) Firm2.yes) (Firm2.qi _ _ _)) 3 _ 0 _ _ (.bool s17) rfl rfl rfl); have st := hide (Sg.put st.out (Firm2.and (Firm2.and (Firm2.and (Firm2.and (Firm2.and Firm2.yes (Firm2.and (Firm2.qi _ _ _) (Firm2.and (Firm2.qi _ _ _) (Firm2.and (Firm2.ic _ _ _) (Firm2.ic _ _ _))))) (Firm2.ic _ _ _)) (Firm2.qi _ _ _)) Firm2.yes) (Firm2.qi _ _ _)) 3 _ 1 _ _ (.slice A17 n17 c17) rfl rfl rfl)))
      all_goals
        clear a0 a1 d0 d1 x0 x1 k0 k1 k2 k3 f0 f1 f2 f3
        go_wp2_with fail
        refine bodyPost_ret (qret22 (p := 4) (q := 5) rfl _ _ (w.heap.size + 1 + 1) (w.heap.size + 1 + 1 + 1) #[.bool s9, .slice A9 n9 c9] #[.bool s17, .slice A17 n17 c17] rfl rfl rfl rfl (st.out.2.2.2.1 2 _ _ rfl rfl).1 (st.out.2.2.2.1 3 _ _ rfl rfl).1) rfl ?_
        refine ⟨_, _, rfl, ?_, ?_, st.out.1⟩
        · rw [HZQ.out]; exact st.out.2.2.1.1.1.2.more (by omega)
        · unfold zr; rw [HZQ.out]; exact st.out.2.2.1.2
    · by_cases hr : x % y = 0
      · have HZQ : Hid (zq a b = zi true (x / y)) := hide (by rw [← hza, ← hzb]; exact (zq_even (by simp) hP hr).1)
        obtain rfl := hr0.1 hr
        clear hza hzb hs ht hx hy hP hneg hr0 ia ib hu hv hb0 hr
        have st : Hid (Sg w.heap.size w (((((w.alloc (qbox true (.slice A n c))).alloc (qbox false (.slice D m d))).alloc qblk).alloc qblk).alloc (qbox true (.slice A n c))) _ _ _) := ST
        have a0 : (((((w.alloc (qbox true (.slice A n c))).alloc (qbox false (.slice D m d))).alloc qblk).alloc qblk).alloc (qbox true (.slice A n c))).cell? ⟨w.heap.size, 0, none⟩ = some (.bool true) := (Sg.cells st.out 0 _ _ _ rfl rfl 0).1
        have a1 : (((((w.alloc (qbox true (.slice A n c))).alloc (qbox false (.slice D m d))).alloc qblk).alloc qblk).alloc (qbox true (.slice A n c))).cell? ⟨w.heap.size, 1, none⟩ = some (.slice A n c) := (Sg.cells st.out 0 _ _ _ rfl rfl 1).1
        have d0 : (((((w.alloc (qbox true (.slice A n c))).alloc (qbox false (.slice D m d))).alloc qblk).alloc qblk).alloc (qbox true (.slice A n c))).cell? ⟨w.heap.size + 1, 0, none⟩ = some (.bool false) := (Sg.cells st.out 1 _ _ _ rfl rfl 0).1
        have d1 : (((((w.alloc (qbox true (.slice A n c))).alloc (qbox false (.slice D m d))).alloc qblk).alloc qblk).alloc (qbox true (.slice A n c))).cell? ⟨w.heap.size + 1, 1, none⟩ = some (.slice D m d) := (Sg.cells st.out 1 _ _ _ rfl rfl 1).1
        have x0 : (((((w.alloc (qbox true (.slice A n c))).alloc (qbox false (.slice D m d))).alloc qblk).alloc qblk).alloc (qbox true (.slice A n c))).cell? ⟨w.heap.size + 1 + 1 + 1 + 1, 0, none⟩ = some (.bool true) := (Sg.cells st.out 4 _ _ _ rfl rfl 0).1
        have x1 : (((((w.alloc (qbox true (.slice A n c))).alloc (qbox false (.slice D m d))).alloc qblk).alloc qblk).alloc (qbox true (.slice A n c))).cell? ⟨w.heap.size + 1 + 1 + 1 + 1, 1, none⟩ = some (.slice A n c) := (Sg.cells st.out 4 _ _ _ rfl rfl 1).1
        go_enter Tryd.func14, Tryd.ntmps14
        go_wp2_with fail
        generalize hW5 : (((((w.alloc (qbox true (.slice A n c))).alloc (qbox false (.slice D m d))).alloc qblk).alloc qblk).alloc (qbox true (.slice A n c))) = w5 at *
        refine (idivmod (L := L) (M := L) st.out.2.2.1.2.2.2.1 st.out.2.2.1.2.2.2.2.iw HP.out (by omega) (by omega)).mono ?_
        clear a0 a1 d0 d1 x0 x1 hW5
        rintro e w8 ⟨q8, r8, rfl, -, -, iq, ir, bx⟩
        obtain ⟨Aq, nq, cq, rfl⟩ := iq.iw.slice
        obtain ⟨Ar, cr, hr8, -⟩ := id ir
        rw [HLR.out] at hr8
        subst hr8
        have st := hide (Sg.call (G := fun W => Ic W (.slice Aq nq cq) (x / y) L) st.out bx (Firm2.and Firm2.yes (Firm2.and (Firm2.qi _ _ _) (Firm2.and (Firm2.qi _ _ _) (Firm2.and (Firm2.ic _ _ _) (Firm2.ic _ _ _))))) iq)
        clear bx iq ir
        go_wp2_with fail
        refine (form_any (s := false) (z := zi false (x / y)) (L := L) st.out.2.2.1.2.iw (by omega) rfl).mono ?_
        rintro e w9 ⟨v9, rfl, q9, bx⟩
        obtain ⟨s9, x9, A9, n9, c9, rfl, -, -, -⟩ := id q9.parts
        have st := hide (Sg.call (G := fun W => Qi W (zv s9 (.slice A9 n9 c9)) (zi false (x / y)) L) st.out bx (Firm2.and (Firm2.and Firm2.yes (Firm2.and (Firm2.qi _ _ _) (Firm2.and (Firm2.qi _ _ _) (Firm2.and (Firm2.ic _ _ _) (Firm2.ic _ _ _))))) (Firm2.ic _ _ _)) q9)
        have st := hide (Sg.push st.out (Firm2.and (Firm2.and (Firm2.and Firm2.yes (Firm2.and (Firm2.qi _ _ _) (Firm2.and (Firm2.qi _ _ _) (Firm2.and (Firm2.ic _ _ _) (Firm2.ic _ _ _))))) (Firm2.ic _ _ _)) (Firm2.qi _ _ _)) (qbox s9 (.slice A9 n9 c9)) rfl)
        obtain ⟨gz, hgz⟩ : ∃ g, w9.heap.size = g := ⟨_, rfl⟩
        rw [hgz] at st
        have x0 : (w9.alloc (qbox s9 (.slice A9 n9 c9))).cell? ⟨w.heap.size + 1 + 1 + 1 + 1, 0, none⟩ = some (.bool true) := (Sg.cells st.out 4 _ _ _ rfl rfl 0).1
        clear bx q9
        go_wp2_with fail
        generalize hW10 : (w9.alloc (qbox s9 (.slice A9 n9 c9))) = w10 at *
        clear x0 hW10 hgz
        refine (form_any (s := true) (z := zi true (x / y)) (L := L) st.out.2.2.1.1.2.iw (by omega) rfl).mono ?_
        rintro e w11 ⟨v11, rfl, q11, bx⟩
        obtain ⟨s11, x11, A11, n11, c11, rfl, -, -, -⟩ := id q11.parts
        have st := hide (Sg.call (G := fun W => Qi W (zv s11 (.slice A11 n11 c11)) (zi true (x / y)) L) st.out bx (Firm2.and (Firm2.and (Firm2.and Firm2.yes (Firm2.and (Firm2.qi _ _ _) (Firm2.and (Firm2.qi _ _ _) (Firm2.and (Firm2.ic _ _ _) (Firm2.ic _ _ _))))) (Firm2.ic _ _ _)) (Firm2.qi _ _ _)) q11)
        clear bx q11
        have x0 : w11.cell? ⟨gz, 0, none⟩ = some (.bool s9) := (Sg.cells st.out 5 _ _ _ rfl rfl 0).1
        have x1 : w11.cell? ⟨gz, 1, none⟩ = some (.slice A9 n9 c9) := (Sg.cells st.out 5 _ _ _ rfl rfl 1).1
        have f0 : w11.frozen? ⟨gz, 0, none⟩ = false := (Sg.cells st.out 5 _ _ _ rfl rfl 0).2
        have f1 : w11.frozen? ⟨gz, 1, none⟩ = false := (Sg.cells st.out 5 _ _ _ rfl rfl 1).2
        have st := hide (Sg.put st.out (Firm2.and (Firm2.and (Firm2.and (Firm2.and Firm2.yes (Firm2.and (Firm2.qi _ _ _) (Firm2.and (Firm2.qi _ _ _) (Firm2.and (Firm2.ic _ _ _) (Firm2.ic _ _ _))))) (Firm2.ic _ _ _)) (Firm2.qi _ _ _)) (Firm2.qi _ _ _)) 5 _ 0 _ _ (.bool s11) rfl rfl rfl)
        have st := hide (Sg.put st.out (Firm2.and (Firm2.and (Firm2.and (Firm2.and Firm2.yes (Firm2.and (Firm2.qi _ _ _) (Firm2.and (Firm2.qi _ _ _) (Firm2.and (Firm2.ic _ _ _) (Firm2.ic _ _ _))))) (Firm2.ic _ _ _)) (Firm2.qi _ _ _)) (Firm2.qi _ _ _)) 5 _ 1 _ _ (.slice A11 n11 c11) rfl rfl rfl)
        go_wp2_with fail
        clear x0 x1 f0 f1
        generalize ((w11.setCell ⟨gz, 0, none⟩ _).setCell ⟨gz, 1, none⟩ _) = w12 at *
        have bx := Below.drew (Below.refl w12.heap.size w12)
        have st := hide (Sg.call (G := fun W => True) st.out bx (Firm2.and (Firm2.and (Firm2.and (Firm2.and Firm2.yes (Firm2.and (Firm2.qi _ _ _) (Firm2.and (Firm2.qi _ _ _) (Firm2.and (Firm2.ic _ _ _) (Firm2.ic _ _ _))))) (Firm2.ic _ _ _)) (Firm2.qi _ _ _)) (Firm2.qi _ _ _)) trivial)
        clear bx
        have a0 : w12.drew.cell? ⟨w.heap.size, 0, none⟩ = some (.bool true) := (Sg.cells st.out 0 _ _ _ rfl rfl 0).1
        have a1 : w12.drew.cell? ⟨w.heap.size, 1, none⟩ = some (.slice A n c) := (Sg.cells st.out 0 _ _ _ rfl rfl 1).1
        have d0 : w12.drew.cell? ⟨w.heap.size + 1, 0, none⟩ = some (.bool false) := (Sg.cells st.out 1 _ _ _ rfl rfl 0).1
        have d1 : w12.drew.cell? ⟨w.heap.size + 1, 1, none⟩ = some (.slice D m d) := (Sg.cells st.out 1 _ _ _ rfl rfl 1).1
        have x0 : w12.drew.cell? ⟨gz, 0, none⟩ = some (.bool s11) := (Sg.cells st.out 5 _ _ _ rfl rfl 0).1
        have x1 : w12.drew.cell? ⟨gz, 1, none⟩ = some (.slice A11 n11 c11) := (Sg.cells st.out 5 _ _ _ rfl rfl 1).1
        have hz2 : gz ≠ w.heap.size + 1 + 1 := fun h => absurd (st.out.2.2.2.2 5 2 gz rfl (by rw [h]; rfl)) (by omega)
        have hz3 : gz ≠ w.heap.size + 1 + 1 + 1 := fun h => absurd (st.out.2.2.2.2 5 3 gz rfl (by rw [h]; rfl)) (by omega)
        go_region_held3 (fun W => W.cell? ⟨w.heap.size, 0, none⟩ = some (.bool true) ∧ W.cell? ⟨w.heap.size, 1, none⟩ = some (.slice A n c) ∧ W.cell? ⟨w.heap.size + 1, 0, none⟩ = some (.bool false) ∧ W.cell? ⟨w.heap.size + 1, 1, none⟩ = some (.slice D m d) ∧ W.cell? ⟨gz, 0, none⟩ = some (.bool s11) ∧ W.cell? ⟨gz, 1, none⟩ = some (.slice A11 n11 c11))
          (first | with_reducible exact ⟨a0, a1, d0, d1, x0, x1⟩ | with_reducible exact ⟨cell_keep a0 bx1, cell_keep a1 bx1, cell_keep d0 bx1, cell_keep d1 bx1, cell_keep x0 bx1, cell_keep x1 bx1⟩ | with_reducible exact ⟨cell_keep (cell_keep a0 bx1) bx2, cell_keep (cell_keep a1 bx1) bx2, cell_keep (cell_keep d0 bx1) bx2, cell_keep (cell_keep d1 bx1) bx2, cell_keep (cell_keep x0 bx1) bx2, cell_keep (cell_keep x1 bx1) bx2⟩ | with_reducible exact ⟨cell_zset (cell_keep (cell_keep a0 bx1) bx2) (by simp <;> omega) _ _, cell_zset (cell_keep (cell_keep a1 bx1) bx2) (by simp <;> omega) _ _, cell_zset (cell_keep (cell_keep d0 bx1) bx2) (by simp <;> omega) _ _, cell_zset (cell_keep (cell_keep d1 bx1) bx2) (by simp <;> omega) _ _, cell_zset (cell_keep (cell_keep x0 bx1) bx2) hz2 _ _, cell_zset (cell_keep (cell_keep x1 bx1) bx2) hz2 _ _⟩ | with_reducible exact ⟨cell_zset (cell_zset (cell_keep (cell_keep a0 bx1) bx2) (by simp <;> omega) _ _) (by simp <;> omega) _ _, cell_zset (cell_zset (cell_keep (cell_keep a1 bx1) bx2) (by simp <;> omega) _ _) (by simp <;> omega) _ _, cell_zset (cell_zset (cell_keep (cell_keep d0 bx1) bx2) (by simp <;> omega) _ _) (by simp <;> omega) _ _, cell_zset (cell_zset (cell_keep (cell_keep d1 bx1) bx2) (by simp <;> omega) _ _) (by simp <;> omega) _ _, cell_zset (cell_zset (cell_keep (cell_keep x0 bx1) bx2) hz2 _ _) hz3 _ _, cell_zset (cell_zset (cell_keep (cell_keep x1 bx1) bx2) hz2 _ _) hz3 _ _⟩)
          (first
            | (go_at_call 41; refine Calls.mono (qmul_any (a := zi true (x / y)) (b := b) (L := L + 1) (M := L) (st.out.2.2.1.1.2.more (by omega)) st.out.2.2.1.1.1.1.1.2.2.1 (by omega) (by omega)) ?_; rintro e w16 ⟨v16, rfl, q16, bx1⟩)
            | (go_at_call 40; refine Calls.mono (qsub_any (a := a) (b := (zi true (x / y)) * b) (L := L) (M := L + 1 + L) (K := L + 1 + L) (st.out.2.2.1.1.1.1.1.2.1.step bx1) q16 (by omega) (by omega) (by omega)) ?_; rintro e wx ⟨v17, rfl, q17, bx2⟩; obtain ⟨s17, x17, A17, n17, c17, rfl, -, -, -⟩ := id q17.parts; have bx := Below.step1 bx1 bx2; have st := hide (Sg.call (G := fun W => Qi W (zv s17 (.slice A17 n17 c17)) (a - (zi true (x / y)) * b) (L + 1 + L + 1)) st.out bx (Firm2.and (Firm2.and (Firm2.and (Firm2.and (Firm2.and Firm2.yes (Firm2.and (Firm2.qi _ _ _) (Firm2.and (Firm2.qi _ _ _) (Firm2.and (Firm2.ic _ _ _) (Firm2.ic _ _ _))))) (Firm2.ic _ _ _)) (Firm2.qi _ _ _)) (Firm2.qi _ _ _)) Firm2.yes) q17); have k0 : wx.cell? ⟨w.heap.size + 1 + 1, 0, none⟩ = some (.bool false) := (Sg.cells st.out 2 _ _ _ rfl rfl 0).1; have k1 : wx.cell? ⟨w.heap.size + 1 + 1, 1, none⟩ = some (.slice none 0 0) := (Sg.cells st.out 2 _ _ _ rfl rfl 1).1; have k2 : wx.cell? ⟨w.heap.size + 1 + 1 + 1, 0, none⟩ = some (.bool false) := (Sg.cells st.out 3 _ _ _ rfl rfl 0).1; have k3 : wx.cell? ⟨w.heap.size + 1 + 1 + 1, 1, none⟩ = some (.slice none 0 0) := (Sg.cells st.out 3 _ _ _ rfl rfl 1).1; have f0 : wx.frozen? ⟨w.heap.size + 1 + 1, 0, none⟩ = false := (Sg.cells st.out 2 _ _ _ rfl rfl 0).2; have f1 : wx.frozen? ⟨w.heap.size + 1 + 1, 1, none⟩ = false := (Sg.cells st.out 2 _ _ _ rfl rfl 1).2; have f2 : wx.frozen? ⟨w.heap.size + 1 + 1 + 1, 0, none⟩ = false := (Sg.cells st.out 3 _ _ _ rfl rfl 0).2; have f3 : wx.frozen? ⟨w.heap.size + 1 + 1 + 1, 1, none⟩ = false := (Sg.cells st.out 3 _ _ _ rfl rfl 1).2; have st := hide (Sg.put st.out (Firm2.and (Firm2.and (Firm2.and (Firm2.and (Firm2.and (Firm2.and Firm2.yes (Firm2.and (Firm2.qi _ _ _) (Firm2.and (Firm2.qi _ _ _) (Firm2.and (Firm2.ic _ _ _) (Firm2.ic _ _ _))))) (Firm2.ic _ _ _)) (Firm2.qi _ _ _)) (Firm2.qi _ _ _)) Firm2.yes) (Firm2.qi _ _ _)) 2 _ 0 _ _ (.bool s11) rfl rfl rfl); have st := hide (Sg.put st.out (Firm2.and (Firm2.and (Firm2.and (Firm2.and (Firm2.and (Firm2.and Firm2.yes (Firm2.and (Firm2.qi _ _ _) (Firm2.and (Firm2.qi _ _ _) (Firm2.and (Firm2.ic _ _ _) (Firm2.ic _ _ _))))) (Firm2.ic _ _ _)) (Firm2.qi _ _ _)) (Firm2.qi _ _ _)) Firm2.yes) (Firm2.qi _ _ _)) 2 _ 1 _ _ (.slice A11 n11 c11) rfl rfl rfl); have st := hide (Sg.put st.out (Firm2.and (Firm2.and (Firm2.and (Firm2.and (Firm2.and (Firm2.and Firm2.yes (Firm2.and (Firm2.qi _ _ _) (Firm2.and (Firm2.qi _ _ _) (Firm2.and (Firm2.ic _ _ _) (Firm2.ic _ _ _))))) (Firm2.ic _ _ _)) (Firm2.qi _ _ _)) (Firm2.qi _ _ _)) Firm2.yes) (Firm2.qi _ _ _)) 3 _ 0 _ _ (.bool s17) rfl rfl rfl); have st := hide (Sg.put st.out (Firm2.and (Firm2.and (Firm2.and (Firm2.and (Firm2.and (Firm2.and Firm2.yes (Firm2.and (Firm2.qi _ _ _) (Firm2.and (Firm2.qi _ _ _) (Firm2.and (Firm2.ic _ _ _) (Firm2.ic _ _ _))))) (Firm2.ic _ _ _)) (Firm2.qi _ _ _)) (Firm2.qi _ _ _)) Firm2.yes) (Firm2.qi _ _ _)) 3 _ 1 _ _ (.slice A17 n17 c17) rfl rfl rfl)))
        all_goals
          clear a0 a1 d0 d1 x0 x1 k0 k1 k2 k3 f0 f1 f2 f3
          go_wp2_with fail
          refine bodyPost_ret (qret22 (p := 4) (q := 5) rfl _ _ (w.heap.size + 1 + 1) (w.heap.size + 1 + 1 + 1) #[.bool s11, .slice A11 n11 c11] #[.bool s17, .slice A17 n17 c17] rfl rfl rfl rfl (st.out.2.2.2.1 2 _ _ rfl rfl).1 (st.out.2.2.2.1 3 _ _ rfl rfl).1) rfl ?_
          refine ⟨_, _, rfl, ?_, ?_, st.out.1⟩
          · rw [HZQ.out]; exact st.out.2.2.1.1.1.2.more (by omega)
          · unfold zr; rw [HZQ.out]; exact st.out.2.2.1.2
      · have HZQ : Hid (zq a b = zi true (x / y) - 1) := hide (by rw [← hza, ← hzb, (zq_odd (by simp) hP hr).1]; unfold zi; simp; omega)
        have t1 : decide ((0 : Int) < (lr : Int)) = true := decide_eq_true (by have := (not_congr hr0).1 hr; omega)
        have t2 : decide (0 < lr) = true := decide_eq_true (by have := (not_congr hr0).1 hr; omega)
        clear hza hzb hs ht hx hy hP hneg hr0 ia ib hu hv hb0 hr
        have st : Hid (Sg w.heap.size w (((((w.alloc (qbox true (.slice A n c))).alloc (qbox false (.slice D m d))).alloc qblk).alloc qblk).alloc (qbox true (.slice A n c))) _ _ _) := ST
        have a0 : (((((w.alloc (qbox true (.slice A n c))).alloc (qbox false (.slice D m d))).alloc qblk).alloc qblk).alloc (qbox true (.slice A n c))).cell? ⟨w.heap.size, 0, none⟩ = some (.bool true) := (Sg.cells st.out 0 _ _ _ rfl rfl 0).1
        have a1 : (((((w.alloc (qbox true (.slice A n c))).alloc (qbox false (.slice D m d))).alloc qblk).alloc qblk).alloc (qbox true (.slice A n c))).cell? ⟨w.heap.size, 1, none⟩ = some (.slice A n c) := (Sg.cells st.out 0 _ _ _ rfl rfl 1).1
        have d0 : (((((w.alloc (qbox true (.slice A n c))).alloc (qbox false (.slice D m d))).alloc qblk).alloc qblk).alloc (qbox true (.slice A n c))).cell? ⟨w.heap.size + 1, 0, none⟩ = some (.bool false) := (Sg.cells st.out 1 _ _ _ rfl rfl 0).1
        have d1 : (((((w.alloc (qbox true (.slice A n c))).alloc (qbox false (.slice D m d))).alloc qblk).alloc qblk).alloc (qbox true (.slice A n c))).cell? ⟨w.heap.size + 1, 1, none⟩ = some (.slice D m d) := (Sg.cells st.out 1 _ _ _ rfl rfl 1).1
        have x0 : (((((w.alloc (qbox true (.slice A n c))).alloc (qbox false (.slice D m d))).alloc qblk).alloc qblk).alloc (qbox true (.slice A n c))).cell? ⟨w.heap.size + 1 + 1 + 1 + 1, 0, none⟩ = some (.bool true) := (Sg.cells st.out 4 _ _ _ rfl rfl 0).1
        have x1 : (((((w.alloc (qbox true (.slice A n c))).alloc (qbox false (.slice D m d))).alloc qblk).alloc qblk).alloc (qbox true (.slice A n c))).cell? ⟨w.heap.size + 1 + 1 + 1 + 1, 1, none⟩ = some (.slice A n c) := (Sg.cells st.out 4 _ _ _ rfl rfl 1).1
        go_enter Tryd.func14, Tryd.ntmps14
        go_wp2_with fail
        generalize hW5 : (((((w.alloc (qbox true (.slice A n c))).alloc (qbox false (.slice D m d))).alloc qblk).alloc qblk).alloc (qbox true (.slice A n c))) = w5 at *
        refine (idivmod (L := L) (M := L) st.out.2.2.1.2.2.2.1 st.out.2.2.1.2.2.2.2.iw HP.out (by omega) (by omega)).mono ?_
        clear a0 a1 d0 d1 x0 x1 hW5
        rintro e w8 ⟨q8, r8, rfl, -, -, iq, ir, bx⟩
        obtain ⟨Aq, nq, cq, rfl⟩ := iq.iw.slice
        obtain ⟨Ar, cr, hr8, -⟩ := id ir
        rw [HLR.out] at hr8
        subst hr8
        have st := hide (Sg.call (G := fun W => Ic W (.slice Aq nq cq) (x / y) L) st.out bx (Firm2.and Firm2.yes (Firm2.and (Firm2.qi _ _ _) (Firm2.and (Firm2.qi _ _ _) (Firm2.and (Firm2.ic _ _ _) (Firm2.ic _ _ _))))) iq)
        clear bx iq ir
        go_wp2_with fail
        refine (form_any (s := false) (z := zi false (x / y)) (L := L) st.out.2.2.1.2.iw (by omega) rfl).mono ?_
        rintro e w9 ⟨v9, rfl, q9, bx⟩
        obtain ⟨s9, x9, A9, n9, c9, rfl, -, -, -⟩ := id q9.parts
        have st := hide (Sg.call (G := fun W => Qi W (zv s9 (.slice A9 n9 c9)) (zi false (x / y)) L) st.out bx (Firm2.and (Firm2.and Firm2.yes (Firm2.and (Firm2.qi _ _ _) (Firm2.and (Firm2.qi _ _ _) (Firm2.and (Firm2.ic _ _ _) (Firm2.ic _ _ _))))) (Firm2.ic _ _ _)) q9)
        have st := hide (Sg.push st.out (Firm2.and (Firm2.and (Firm2.and Firm2.yes (Firm2.and (Firm2.qi _ _ _) (Firm2.and (Firm2.qi _ _ _) (Firm2.and (Firm2.ic _ _ _) (Firm2.ic _ _ _))))) (Firm2.ic _ _ _)) (Firm2.qi _ _ _)) (qbox s9 (.slice A9 n9 c9)) rfl)
        obtain ⟨gz, hgz⟩ : ∃ g, w9.heap.size = g := ⟨_, rfl⟩
        rw [hgz] at st
        have x0 : (w9.alloc (qbox s9 (.slice A9 n9 c9))).cell? ⟨w.heap.size + 1 + 1 + 1 + 1, 0, none⟩ = some (.bool true) := (Sg.cells st.out 4 _ _ _ rfl rfl 0).1
        clear bx q9
        go_wp2_with fail
        generalize hW10 : (w9.alloc (qbox s9 (.slice A9 n9 c9))) = w10 at *
        clear x0 hW10 hgz
        refine (form_any (s := true) (z := zi true (x / y)) (L := L) st.out.2.2.1.1.2.iw (by omega) rfl).mono ?_
        rintro e w11 ⟨v11, rfl, q11, bx⟩
        obtain ⟨s11, x11, A11, n11, c11, rfl, -, -, -⟩ := id q11.parts
        have st := hide (Sg.call (G := fun W => Qi W (zv s11 (.slice A11 n11 c11)) (zi true (x / y)) L) st.out bx (Firm2.and (Firm2.and (Firm2.and Firm2.yes (Firm2.and (Firm2.qi _ _ _) (Firm2.and (Firm2.qi _ _ _) (Firm2.and (Firm2.ic _ _ _) (Firm2.ic _ _ _))))) (Firm2.ic _ _ _)) (Firm2.qi _ _ _)) q11)
        clear bx q11
        have x0 : w11.cell? ⟨gz, 0, none⟩ = some (.bool s9) := (Sg.cells st.out 5 _ _ _ rfl rfl 0).1
        have x1 : w11.cell? ⟨gz, 1, none⟩ = some (.slice A9 n9 c9) := (Sg.cells st.out 5 _ _ _ rfl rfl 1).1
        have f0 : w11.frozen? ⟨gz, 0, none⟩ = false := (Sg.cells st.out 5 _ _ _ rfl rfl 0).2
        have f1 : w11.frozen? ⟨gz, 1, none⟩ = false := (Sg.cells st.out 5 _ _ _ rfl rfl 1).2
        have st := hide (Sg.put st.out (Firm2.and (Firm2.and (Firm2.and (Firm2.and Firm2.yes (Firm2.and (Firm2.qi _ _ _) (Firm2.and (Firm2.qi _ _ _) (Firm2.and (Firm2.ic _ _ _) (Firm2.ic _ _ _))))) (Firm2.ic _ _ _)) (Firm2.qi _ _ _)) (Firm2.qi _ _ _)) 5 _ 0 _ _ (.bool s11) rfl rfl rfl)
        have st := hide (Sg.put st.out (Firm2.and (Firm2.and (Firm2.and (Firm2.and Firm2.yes (Firm2.and (Firm2.qi _ _ _) (Firm2.and (Firm2.qi _ _ _) (Firm2.and (Firm2.ic _ _ _) (Firm2.ic _ _ _))))) (Firm2.ic _ _ _)) (Firm2.qi _ _ _)) (Firm2.qi _ _ _)) 5 _ 1 _ _ (.slice A11 n11 c11) rfl rfl rfl)
        go_wp2_with fail
        clear x0 x1 f0 f1
        generalize ((w11.setCell ⟨gz, 0, none⟩ _).setCell ⟨gz, 1, none⟩ _) = w12 at *
        have bx := Below.drew (Below.refl w12.heap.size w12)
        have st := hide (Sg.call (G := fun W => True) st.out bx (Firm2.and (Firm2.and (Firm2.and (Firm2.and Firm2.yes (Firm2.and (Firm2.qi _ _ _) (Firm2.and (Firm2.qi _ _ _) (Firm2.and (Firm2.ic _ _ _) (Firm2.ic _ _ _))))) (Firm2.ic _ _ _)) (Firm2.qi _ _ _)) (Firm2.qi _ _ _)) trivial)
        clear bx
        have x0 : w12.drew.cell? ⟨gz, 0, none⟩ = some (.bool s11) := (Sg.cells st.out 5 _ _ _ rfl rfl 0).1
        have x1 : w12.drew.cell? ⟨gz, 1, none⟩ = some (.slice A11 n11 c11) := (Sg.cells st.out 5 _ _ _ rfl rfl 1).1
        go_region_with (first
            | (go_at_call 29; refine Calls.mono (qsmall_any _ 1 (by omega) (by omega)) ?_; rintro e w13 ⟨v13, rfl, q1, bx1⟩; have z0 := cell_keep x0 bx1; have z1 := cell_keep x1 bx1)
            | (go_at_call 40; refine Calls.mono (qsub_any (a := zi true (x / y)) (b := 1) (L := L) (M := L) (K := L) (st.out.2.2.1.1.2.step bx1) (q1.more (by omega)) (by omega) (by omega) (by omega)) ?_; rintro e wx ⟨v14, rfl, q14, bx2⟩; obtain ⟨s14, x14, A14, n14, c14, rfl, -, -, -⟩ := id q14.parts; have bx := Below.step1 bx1 bx2; have st := hide (Sg.call (G := fun W => Qi W (zv s14 (.slice A14 n14 c14)) (zi true (x / y) - 1) (L + 1)) st.out bx (Firm2.and (Firm2.and (Firm2.and (Firm2.and (Firm2.and Firm2.yes (Firm2.and (Firm2.qi _ _ _) (Firm2.and (Firm2.qi _ _ _) (Firm2.and (Firm2.ic _ _ _) (Firm2.ic _ _ _))))) (Firm2.ic _ _ _)) (Firm2.qi _ _ _)) (Firm2.qi _ _ _)) Firm2.yes) q14); have y0 : wx.cell? ⟨gz, 0, none⟩ = some (.bool s11) := (Sg.cells st.out 5 _ _ _ rfl rfl 0).1; have y1 : wx.cell? ⟨gz, 1, none⟩ = some (.slice A11 n11 c11) := (Sg.cells st.out 5 _ _ _ rfl rfl 1).1; have f0 : wx.frozen? ⟨gz, 0, none⟩ = false := (Sg.cells st.out 5 _ _ _ rfl rfl 0).2; have f1 : wx.frozen? ⟨gz, 1, none⟩ = false := (Sg.cells st.out 5 _ _ _ rfl rfl 1).2; have st := hide (Sg.put st.out (Firm2.and (Firm2.and (Firm2.and (Firm2.and (Firm2.and (Firm2.and Firm2.yes (Firm2.and (Firm2.qi _ _ _) (Firm2.and (Firm2.qi _ _ _) (Firm2.and (Firm2.ic _ _ _) (Firm2.ic _ _ _))))) (Firm2.ic _ _ _)) (Firm2.qi _ _ _)) (Firm2.qi _ _ _)) Firm2.yes) (Firm2.qi _ _ _)) 5 _ 0 _ _ (.bool s14) rfl rfl rfl); have st := hide (Sg.put st.out (Firm2.and (Firm2.and (Firm2.and (Firm2.and (Firm2.and (Firm2.and Firm2.yes (Firm2.and (Firm2.qi _ _ _) (Firm2.and (Firm2.qi _ _ _) (Firm2.and (Firm2.ic _ _ _) (Firm2.ic _ _ _))))) (Firm2.ic _ _ _)) (Firm2.qi _ _ _)) (Firm2.qi _ _ _)) Firm2.yes) (Firm2.qi _ _ _)) 5 _ 1 _ _ (.slice A14 n14 c14) rfl rfl rfl)))
        all_goals
          go_wp2_with fail
          clear x0 x1 y0 y1 f0 f1
          generalize ((wx.setCell ⟨gz, 0, none⟩ _).setCell ⟨gz, 1, none⟩ _) = w15 at *
          have bx := Below.drew (Below.refl w15.heap.size w15)
          have st := hide (Sg.call (G := fun W => True) st.out bx (Firm2.and (Firm2.and (Firm2.and (Firm2.and (Firm2.and (Firm2.and Firm2.yes (Firm2.and (Firm2.qi _ _ _) (Firm2.and (Firm2.qi _ _ _) (Firm2.and (Firm2.ic _ _ _) (Firm2.ic _ _ _))))) (Firm2.ic _ _ _)) (Firm2.qi _ _ _)) (Firm2.qi _ _ _)) Firm2.yes) (Firm2.qi _ _ _)) trivial)
          clear bx
          have a0 : w15.drew.cell? ⟨w.heap.size, 0, none⟩ = some (.bool true) := (Sg.cells st.out 0 _ _ _ rfl rfl 0).1
          have a1 : w15.drew.cell? ⟨w.heap.size, 1, none⟩ = some (.slice A n c) := (Sg.cells st.out 0 _ _ _ rfl rfl 1).1
          have d0 : w15.drew.cell? ⟨w.heap.size + 1, 0, none⟩ = some (.bool false) := (Sg.cells st.out 1 _ _ _ rfl rfl 0).1
          have d1 : w15.drew.cell? ⟨w.heap.size + 1, 1, none⟩ = some (.slice D m d) := (Sg.cells st.out 1 _ _ _ rfl rfl 1).1
          have x0 : w15.drew.cell? ⟨gz, 0, none⟩ = some (.bool s14) := (Sg.cells st.out 5 _ _ _ rfl rfl 0).1
          have x1 : w15.drew.cell? ⟨gz, 1, none⟩ = some (.slice A14 n14 c14) := (Sg.cells st.out 5 _ _ _ rfl rfl 1).1
          have hz2 : gz ≠ w.heap.size + 1 + 1 := fun h => absurd (st.out.2.2.2.2 5 2 gz rfl (by rw [h]; rfl)) (by omega)
          have hz3 : gz ≠ w.heap.size + 1 + 1 + 1 := fun h => absurd (st.out.2.2.2.2 5 3 gz rfl (by rw [h]; rfl)) (by omega)
          go_region_held3 (fun W => W.cell? ⟨w.heap.size, 0, none⟩ = some (.bool true) ∧ W.cell? ⟨w.heap.size, 1, none⟩ = some (.slice A n c) ∧ W.cell? ⟨w.heap.size + 1, 0, none⟩ = some (.bool false) ∧ W.cell? ⟨w.heap.size + 1, 1, none⟩ = some (.slice D m d) ∧ W.cell? ⟨gz, 0, none⟩ = some (.bool s14) ∧ W.cell? ⟨gz, 1, none⟩ = some (.slice A14 n14 c14))
            (first | with_reducible exact ⟨a0, a1, d0, d1, x0, x1⟩ | with_reducible exact ⟨cell_keep a0 bx1, cell_keep a1 bx1, cell_keep d0 bx1, cell_keep d1 bx1, cell_keep x0 bx1, cell_keep x1 bx1⟩ | with_reducible exact ⟨cell_keep (cell_keep a0 bx1) bx2, cell_keep (cell_keep a1 bx1) bx2, cell_keep (cell_keep d0 bx1) bx2, cell_keep (cell_keep d1 bx1) bx2, cell_keep (cell_keep x0 bx1) bx2, cell_keep (cell_keep x1 bx1) bx2⟩ | with_reducible exact ⟨cell_zset (cell_keep (cell_keep a0 bx1) bx2) (by simp <;> omega) _ _, cell_zset (cell_keep (cell_keep a1 bx1) bx2) (by simp <;> omega) _ _, cell_zset (cell_keep (cell_keep d0 bx1) bx2) (by simp <;> omega) _ _, cell_zset (cell_keep (cell_keep d1 bx1) bx2) (by simp <;> omega) _ _, cell_zset (cell_keep (cell_keep x0 bx1) bx2) hz2 _ _, cell_zset (cell_keep (cell_keep x1 bx1) bx2) hz2 _ _⟩ | with_reducible exact ⟨cell_zset (cell_zset (cell_keep (cell_keep a0 bx1) bx2) (by simp <;> omega) _ _) (by simp <;> omega) _ _, cell_zset (cell_zset (cell_keep (cell_keep a1 bx1) bx2) (by simp <;> omega) _ _) (by simp <;> omega) _ _, cell_zset (cell_zset (cell_keep (cell_keep d0 bx1) bx2) (by simp <;> omega) _ _) (by simp <;> omega) _ _, cell_zset (cell_zset (cell_keep (cell_keep d1 bx1) bx2) (by simp <;> omega) _ _) (by simp <;> omega) _ _, cell_zset (cell_zset (cell_keep (cell_keep x0 bx1) bx2) hz2 _ _) hz3 _ _, cell_zset (cell_zset (cell_keep (cell_keep x1 bx1) bx2) hz2 _ _) hz3 _ _⟩)
            (first
              | (go_at_call 41; refine Calls.mono (qmul_any (a := zi true (x / y) - 1) (b := b) (L := L + 1) (M := L) (st.out.2.2.1.1.2.more (by omega)) st.out.2.2.1.1.1.1.1.1.1.2.2.1 (by omega) (by omega)) ?_; rintro e w16 ⟨v16, rfl, q16, bx1⟩)
              | (go_at_call 40; refine Calls.mono (qsub_any (a := a) (b := (zi true (x / y) - 1) * b) (L := L) (M := L + 1 + L) (K := L + 1 + L) (st.out.2.2.1.1.1.1.1.1.1.2.1.step bx1) q16 (by omega) (by omega) (by omega)) ?_; rintro e wx ⟨v17, rfl, q17, bx2⟩; obtain ⟨s17, x17, A17, n17, c17, rfl, -, -, -⟩ := id q17.parts; have bx := Below.step1 bx1 bx2; have st := hide (Sg.call (G := fun W => Qi W (zv s17 (.slice A17 n17 c17)) (a - (zi true (x / y) - 1) * b) (L + 1 + L + 1)) st.out bx (Firm2.and (Firm2.and (Firm2.and (Firm2.and (Firm2.and (Firm2.and (Firm2.and Firm2.yes (Firm2.and (Firm2.qi _ _ _) (Firm2.and (Firm2.qi _ _ _) (Firm2.and (Firm2.ic _ _ _) (Firm2.ic _ _ _))))) (Firm2.ic _ _ _)) (Firm2.qi _ _ _)) (Firm2.qi _ _ _)) Firm2.yes) (Firm2.qi _ _ _)) Firm2.yes) q17); have k0 : wx.cell? ⟨w.heap.size + 1 + 1, 0, none⟩ = some (.bool false) := (Sg.cells st.out 2 _ _ _ rfl rfl 0).1; have k1 : wx.cell? ⟨w.heap.size + 1 + 1, 1, none⟩ = some (.slice none 0 0) := (Sg.cells st.out 2 _ _ _ rfl rfl 1).1; have k2 : wx.cell? ⟨w.heap.size + 1 + 1 + 1, 0, none⟩ = some (.bool false) := (Sg.cells st.out 3 _ _ _ rfl rfl 0).1; have k3 : wx.cell? ⟨w.heap.size + 1 + 1 + 1, 1, none⟩ = some (.slice none 0 0) := (Sg.cells st.out 3 _ _ _ rfl rfl 1).1; have f0 : wx.frozen? ⟨w.heap.size + 1 + 1, 0, none⟩ = false := (Sg.cells st.out 2 _ _ _ rfl rfl 0).2; have f1 : wx.frozen? ⟨w.heap.size + 1 + 1, 1, none⟩ = false := (Sg.cells st.out 2 _ _ _ rfl rfl 1).2; have f2 : wx.frozen? ⟨w.heap.size + 1 + 1 + 1, 0, none⟩ = false := (Sg.cells st.out 3 _ _ _ rfl rfl 0).2; have f3 : wx.frozen? ⟨w.heap.size + 1 + 1 + 1, 1, none⟩ = false := (Sg.cells st.out 3 _ _ _ rfl rfl 1).2; have st := hide (Sg.put st.out (Firm2.and (Firm2.and (Firm2.and (Firm2.and (Firm2.and (Firm2.and (Firm2.and (Firm2.and Firm2.yes (Firm2.and (Firm2.qi _ _ _) (Firm2.and (Firm2.qi _ _ _) (Firm2.and (Firm2.ic _ _ _) (Firm2.ic _ _ _))))) (Firm2.ic _ _ _)) (Firm2.qi _ _ _)) (Firm2.qi _ _ _)) Firm2.yes) (Firm2.qi _ _ _)) Firm2.yes) (Firm2.qi _ _ _)) 2 _ 0 _ _ (.bool s14) rfl rfl rfl); have st := hide (Sg.put st.out (Firm2.and (Firm2.and (Firm2.and (Firm2.and (Firm2.and (Firm2.and (Firm2.and (Firm2.and Firm2.yes (Firm2.and (Firm2.qi _ _ _) (Firm2.and (Firm2.qi _ _ _) (Firm2.and (Firm2.ic _ _ _) (Firm2.ic _ _ _))))) (Firm2.ic _ _ _)) (Firm2.qi _ _ _)) (Firm2.qi _ _ _)) Firm2.yes) (Firm2.qi _ _ _)) Firm2.yes) (Firm2.qi _ _ _)) 2 _ 1 _ _ (.slice A14 n14 c14) rfl rfl rfl); have st := hide (Sg.put st.out (Firm2.and (Firm2.and (Firm2.and (Firm2.and (Firm2.and (Firm2.and (Firm2.and (Firm2.and Firm2.yes (Firm2.and (Firm2.qi _ _ _) (Firm2.and (Firm2.qi _ _ _) (Firm2.and (Firm2.ic _ _ _) (Firm2.ic _ _ _))))) (Firm2.ic _ _ _)) (Firm2.qi _ _ _)) (Firm2.qi _ _ _)) Firm2.yes) (Firm2.qi _ _ _)) Firm2.yes) (Firm2.qi _ _ _)) 3 _ 0 _ _ (.bool s17) rfl rfl rfl); have st := hide (Sg.put st.out (Firm2.and (Firm2.and (Firm2.and (Firm2.and (Firm2.and (Firm2.and (Firm2.and (Firm2.and Firm2.yes (Firm2.and (Firm2.qi _ _ _) (Firm2.and (Firm2.qi _ _ _) (Firm2.and (Firm2.ic _ _ _) (Firm2.ic _ _ _))))) (Firm2.ic _ _ _)) (Firm2.qi _ _ _)) (Firm2.qi _ _ _)) Firm2.yes) (Firm2.qi _ _ _)) Firm2.yes) (Firm2.qi _ _ _)) 3 _ 1 _ _ (.slice A17 n17 c17) rfl rfl rfl)))
          all_goals
            clear a0 a1 d0 d1 x0 x1 k0 k1 k2 k3 f0 f1 f2 f3
            go_wp2_with fail
            refine bodyPost_ret (qret22 (p := 4) (q := 5) rfl _ _ (w.heap.size + 1 + 1) (w.heap.size + 1 + 1 + 1) #[.bool s14, .slice A14 n14 c14] #[.bool s17, .slice A17 n17 c17] rfl rfl rfl rfl (st.out.2.2.2.1 2 _ _ rfl rfl).1 (st.out.2.2.2.1 3 _ _ rfl rfl).1) rfl ?_
            refine ⟨_, _, rfl, ?_, ?_, st.out.1⟩
            · rw [HZQ.out]; exact st.out.2.2.1.1.1.2.more (by omega)
            · unfold zr; rw [HZQ.out]; exact st.out.2.2.1.2
  · by_cases hn : -a < 0
    · have HS : Hid (decide (-a < 0) = true) := hide (decide_eq_true hn)
      have hs0 : s = false := by rw [← hs]; exact decide_eq_false (by omega)
      have hst : s ≠ true := by rw [hs0]; simp
      by_cases hr : x % y = 0
      · have HZQ : Hid (zq a b = zi true (x / y)) := hide (by rw [← hza, ← hzb]; exact (zq_even hst hP hr).1)
        obtain rfl := hr0.1 hr
        clear hza hzb hs ht hx hy hP hneg hr0 ia ib hu hv hb0 hr hn hs0 hst
        have st : Hid (Sg w.heap.size w (((((w.alloc (qbox s (.slice A n c))).alloc (qbox true (.slice D m d))).alloc qblk).alloc qblk).alloc (qbox s (.slice A n c))) _ _ _) := ST
        have a0 : (((((w.alloc (qbox s (.slice A n c))).alloc (qbox true (.slice D m d))).alloc qblk).alloc qblk).alloc (qbox s (.slice A n c))).cell? ⟨w.heap.size, 0, none⟩ = some (.bool s) := (Sg.cells st.out 0 _ _ _ rfl rfl 0).1
        have a1 : (((((w.alloc (qbox s (.slice A n c))).alloc (qbox true (.slice D m d))).alloc qblk).alloc qblk).alloc (qbox s (.slice A n c))).cell? ⟨w.heap.size, 1, none⟩ = some (.slice A n c) := (Sg.cells st.out 0 _ _ _ rfl rfl 1).1
        have d0 : (((((w.alloc (qbox s (.slice A n c))).alloc (qbox true (.slice D m d))).alloc qblk).alloc qblk).alloc (qbox s (.slice A n c))).cell? ⟨w.heap.size + 1, 0, none⟩ = some (.bool true) := (Sg.cells st.out 1 _ _ _ rfl rfl 0).1
        have d1 : (((((w.alloc (qbox s (.slice A n c))).alloc (qbox true (.slice D m d))).alloc qblk).alloc qblk).alloc (qbox s (.slice A n c))).cell? ⟨w.heap.size + 1, 1, none⟩ = some (.slice D m d) := (Sg.cells st.out 1 _ _ _ rfl rfl 1).1
        have x0 : (((((w.alloc (qbox s (.slice A n c))).alloc (qbox true (.slice D m d))).alloc qblk).alloc qblk).alloc (qbox s (.slice A n c))).cell? ⟨w.heap.size + 1 + 1 + 1 + 1, 0, none⟩ = some (.bool s) := (Sg.cells st.out 4 _ _ _ rfl rfl 0).1
        have x1 : (((((w.alloc (qbox s (.slice A n c))).alloc (qbox true (.slice D m d))).alloc qblk).alloc qblk).alloc (qbox s (.slice A n c))).cell? ⟨w.heap.size + 1 + 1 + 1 + 1, 1, none⟩ = some (.slice A n c) := (Sg.cells st.out 4 _ _ _ rfl rfl 1).1
        go_enter Tryd.func14, Tryd.ntmps14
        go_wp2_with fail
        generalize hW5 : (((((w.alloc (qbox s (.slice A n c))).alloc (qbox true (.slice D m d))).alloc qblk).alloc qblk).alloc (qbox s (.slice A n c))) = w5 at *
        refine (qneg_any st.out.2.2.1.2.1 (by omega)).mono ?_
        rintro e w6 ⟨v6, rfl, q6, bx⟩
        obtain ⟨u6, rfl, i6⟩ := q6
        obtain ⟨A6, n6, c6, rfl⟩ := i6.iw.slice
        rw [HX.out] at i6
        rw [HS.out]
        have st := hide (Sg.call (G := fun W => Ic W (.slice A6 n6 c6) x L) st.out bx (Firm2.and Firm2.yes (Firm2.and (Firm2.qi _ _ _) (Firm2.and (Firm2.qi _ _ _) (Firm2.and (Firm2.ic _ _ _) (Firm2.ic _ _ _))))) i6)
        clear a0 a1 d0 d1 x0 x1 bx i6 hW5
        have x0 : w6.cell? ⟨w.heap.size + 1 + 1 + 1 + 1, 0, none⟩ = some (.bool s) := (Sg.cells st.out 4 _ _ _ rfl rfl 0).1
        have x1 : w6.cell? ⟨w.heap.size + 1 + 1 + 1 + 1, 1, none⟩ = some (.slice A n c) := (Sg.cells st.out 4 _ _ _ rfl rfl 1).1
        have d1 : w6.cell? ⟨w.heap.size + 1, 1, none⟩ = some (.slice D m d) := (Sg.cells st.out 1 _ _ _ rfl rfl 1).1
        have f0 : w6.frozen? ⟨w.heap.size + 1 + 1 + 1 + 1, 0, none⟩ = false := (Sg.cells st.out 4 _ _ _ rfl rfl 0).2
        have f1 : w6.frozen? ⟨w.heap.size + 1 + 1 + 1 + 1, 1, none⟩ = false := (Sg.cells st.out 4 _ _ _ rfl rfl 1).2
        have st := hide (Sg.put st.out (Firm2.and (Firm2.and Firm2.yes (Firm2.and (Firm2.qi _ _ _) (Firm2.and (Firm2.qi _ _ _) (Firm2.and (Firm2.ic _ _ _) (Firm2.ic _ _ _))))) (Firm2.ic _ _ _)) 4 _ 0 _ _ (.bool true) rfl rfl rfl)
        have st := hide (Sg.put st.out (Firm2.and (Firm2.and Firm2.yes (Firm2.and (Firm2.qi _ _ _) (Firm2.and (Firm2.qi _ _ _) (Firm2.and (Firm2.ic _ _ _) (Firm2.ic _ _ _))))) (Firm2.ic _ _ _)) 4 _ 1 _ _ (.slice A6 n6 c6) rfl rfl rfl)
        go_wp2_with fail
        clear x0 x1 d1 f0 f1
        generalize ((w6.setCell ⟨w.heap.size + 1 + 1 + 1 + 1, 0, none⟩ _).setCell ⟨w.heap.size + 1 + 1 + 1 + 1, 1, none⟩ _) = w7 at *
        refine (idivmod (L := L) (M := L) st.out.2.2.1.2 st.out.2.2.1.1.2.2.2.2.iw HP.out (by omega) (by omega)).mono ?_
        rintro e w8 ⟨q8, r8, rfl, -, -, iq, ir, bx⟩
        obtain ⟨Aq, nq, cq, rfl⟩ := iq.iw.slice
        obtain ⟨Ar, cr, hr8, -⟩ := id ir
        rw [HLR.out] at hr8
        subst hr8
        have st := hide (Sg.call (G := fun W => Ic W (.slice Aq nq cq) (x / y) L) st.out bx (Firm2.and (Firm2.and Firm2.yes (Firm2.and (Firm2.qi _ _ _) (Firm2.and (Firm2.qi _ _ _) (Firm2.and (Firm2.ic _ _ _) (Firm2.ic _ _ _))))) (Firm2.ic _ _ _)) iq)
        clear bx iq ir
        go_wp2_with fail
        refine (form_any (s := false) (z := zi false (x / y)) (L := L) st.out.2.2.1.2.iw (by omega) rfl).mono ?_
        rintro e w9 ⟨v9, rfl, q9, bx⟩
        obtain ⟨s9, x9, A9, n9, c9, rfl, -, -, -⟩ := id q9.parts
        have st := hide (Sg.call (G := fun W => Qi W (zv s9 (.slice A9 n9 c9)) (zi false (x / y)) L) st.out bx (Firm2.and (Firm2.and (Firm2.and Firm2.yes (Firm2.and (Firm2.qi _ _ _) (Firm2.and (Firm2.qi _ _ _) (Firm2.and (Firm2.ic _ _ _) (Firm2.ic _ _ _))))) (Firm2.ic _ _ _)) (Firm2.ic _ _ _)) q9)
        have st := hide (Sg.push st.out (Firm2.and (Firm2.and (Firm2.and (Firm2.and Firm2.yes (Firm2.and (Firm2.qi _ _ _) (Firm2.and (Firm2.qi _ _ _) (Firm2.and (Firm2.ic _ _ _) (Firm2.ic _ _ _))))) (Firm2.ic _ _ _)) (Firm2.ic _ _ _)) (Firm2.qi _ _ _)) (qbox s9 (.slice A9 n9 c9)) rfl)
        obtain ⟨gz, hgz⟩ : ∃ g, w9.heap.size = g := ⟨_, rfl⟩
        rw [hgz] at st
        have x0 : (w9.alloc (qbox s9 (.slice A9 n9 c9))).cell? ⟨w.heap.size + 1 + 1 + 1 + 1, 0, none⟩ = some (.bool true) := (Sg.cells st.out 4 _ _ _ rfl rfl 0).1
        clear bx q9
        go_wp2_with fail
        generalize hW10 : (w9.alloc (qbox s9 (.slice A9 n9 c9))) = w10 at *
        clear x0 hW10 hgz
        refine (form_any (s := true) (z := zi true (x / y)) (L := L) st.out.2.2.1.1.2.iw (by omega) rfl).mono ?_
        rintro e w11 ⟨v11, rfl, q11, bx⟩
        obtain ⟨s11, x11, A11, n11, c11, rfl, -, -, -⟩ := id q11.parts
        have st := hide (Sg.call (G := fun W => Qi W (zv s11 (.slice A11 n11 c11)) (zi true (x / y)) L) st.out bx (Firm2.and (Firm2.and (Firm2.and (Firm2.and Firm2.yes (Firm2.and (Firm2.qi _ _ _) (Firm2.and (Firm2.qi _ _ _) (Firm2.and (Firm2.ic _ _ _) (Firm2.ic _ _ _))))) (Firm2.ic _ _ _)) (Firm2.ic _ _ _)) (Firm2.qi _ _ _)) q11)
        clear bx q11
        have x0 : w11.cell? ⟨gz, 0, none⟩ = some (.bool s9) := (Sg.cells st.out 5 _ _ _ rfl rfl 0).1
        have x1 : w11.cell? ⟨gz, 1, none⟩ = some (.slice A9 n9 c9) := (Sg.cells st.out 5 _ _ _ rfl rfl 1).1
        have f0 : w11.frozen? ⟨gz, 0, none⟩ = false := (Sg.cells st.out 5 _ _ _ rfl rfl 0).2
        have f1 : w11.frozen? ⟨gz, 1, none⟩ = false := (Sg.cells st.out 5 _ _ _ rfl rfl 1).2
        have st := hide (Sg.put st.out (Firm2.and (Firm2.and (Firm2.and (Firm2.and (Firm2.and Firm2.yes (Firm2.and (Firm2.qi _ _ _) (Firm2.and (Firm2.qi _ _ _) (Firm2.and (Firm2.ic _ _ _) (Firm2.ic _ _ _))))) (Firm2.ic _ _ _)) (Firm2.ic _ _ _)) (Firm2.qi _ _ _)) (Firm2.qi _ _ _)) 5 _ 0 _ _ (.bool s11) rfl rfl rfl)
        have st := hide (Sg.put st.out (Firm2.and (Firm2.and (Firm2.and (Firm2.and (Firm2.and Firm2.yes (Firm2.and (Firm2.qi _ _ _) (Firm2.and (Firm2.qi _ _ _) (Firm2.and (Firm2.ic _ _ _) (Firm2.ic _ _ _))))) (Firm2.ic _ _ _)) (Firm2.ic _ _ _)) (Firm2.qi _ _ _)) (Firm2.qi _ _ _)) 5 _ 1 _ _ (.slice A11 n11 c11) rfl rfl rfl)
        go_wp2_with fail
        clear x0 x1 f0 f1
        generalize ((w11.setCell ⟨gz, 0, none⟩ _).setCell ⟨gz, 1, none⟩ _) = w12 at *
        have bx := Below.drew (Below.refl w12.heap.size w12)
        have st := hide (Sg.call (G := fun W => True) st.out bx (Firm2.and (Firm2.and (Firm2.and (Firm2.and (Firm2.and Firm2.yes (Firm2.and (Firm2.qi _ _ _) (Firm2.and (Firm2.qi _ _ _) (Firm2.and (Firm2.ic _ _ _) (Firm2.ic _ _ _))))) (Firm2.ic _ _ _)) (Firm2.ic _ _ _)) (Firm2.qi _ _ _)) (Firm2.qi _ _ _)) trivial)
        clear bx
        have a0 : w12.drew.cell? ⟨w.heap.size, 0, none⟩ = some (.bool s) := (Sg.cells st.out 0 _ _ _ rfl rfl 0).1
        have a1 : w12.drew.cell? ⟨w.heap.size, 1, none⟩ = some (.slice A n c) := (Sg.cells st.out 0 _ _ _ rfl rfl 1).1
        have d0 : w12.drew.cell? ⟨w.heap.size + 1, 0, none⟩ = some (.bool true) := (Sg.cells st.out 1 _ _ _ rfl rfl 0).1
        have d1 : w12.drew.cell? ⟨w.heap.size + 1, 1, none⟩ = some (.slice D m d) := (Sg.cells st.out 1 _ _ _ rfl rfl 1).1
        have x0 : w12.drew.cell? ⟨gz, 0, none⟩ = some (.bool s11) := (Sg.cells st.out 5 _ _ _ rfl rfl 0).1
        have x1 : w12.drew.cell? ⟨gz, 1, none⟩ = some (.slice A11 n11 c11) := (Sg.cells st.out 5 _ _ _ rfl rfl 1).1
        have hz2 : gz ≠ w.heap.size + 1 + 1 := fun h => absurd (st.out.2.2.2.2 5 2 gz rfl (by rw [h]; rfl)) (by omega)
        have hz3 : gz ≠ w.heap.size + 1 + 1 + 1 := fun h => absurd (st.out.2.2.2.2 5 3 gz rfl (by rw [h]; rfl)) (by omega)
        go_region_held3 (fun W => W.cell? ⟨w.heap.size, 0, none⟩ = some (.bool s) ∧ W.cell? ⟨w.heap.size, 1, none⟩ = some (.slice A n c) ∧ W.cell? ⟨w.heap.size + 1, 0, none⟩ = some (.bool true) ∧ W.cell? ⟨w.heap.size + 1, 1, none⟩ = some (.slice D m d) ∧ W.cell? ⟨gz, 0, none⟩ = some (.bool s11) ∧ W.cell? ⟨gz, 1, none⟩ = some (.slice A11 n11 c11))
          (first | with_reducible exact ⟨a0, a1, d0, d1, x0, x1⟩ | with_reducible exact ⟨cell_keep a0 bx1, cell_keep a1 bx1, cell_keep d0 bx1, cell_keep d1 bx1, cell_keep x0 bx1, cell_keep x1 bx1⟩ | with_reducible exact ⟨cell_keep (cell_keep a0 bx1) bx2, cell_keep (cell_keep a1 bx1) bx2, cell_keep (cell_keep d0 bx1) bx2, cell_keep (cell_keep d1 bx1) bx2, cell_keep (cell_keep x0 bx1) bx2, cell_keep (cell_keep x1 bx1) bx2⟩ | with_reducible exact ⟨cell_zset (cell_keep (cell_keep a0 bx1) bx2) (by simp <;> omega) _ _, cell_zset (cell_keep (cell_keep a1 bx1) bx2) (by simp <;> omega) _ _, cell_zset (cell_keep (cell_keep d0 bx1) bx2) (by simp <;> omega) _ _, cell_zset (cell_keep (cell_keep d1 bx1) bx2) (by simp <;> omega) _ _, cell_zset (cell_keep (cell_keep x0 bx1) bx2) hz2 _ _, cell_zset (cell_keep (cell_keep x1 bx1) bx2) hz2 _ _⟩ | with_reducible exact ⟨cell_zset (cell_zset (cell_keep (cell_keep a0 bx1) bx2) (by simp <;> omega) _ _) (by simp <;> omega) _ _, cell_zset (cell_zset (cell_keep (cell_keep a1 bx1) bx2) (by simp <;> omega) _ _) (by simp <;> omega) _ _, cell_zset (cell_zset (cell_keep (cell_keep d0 bx1) bx2) (by simp <;> omega) _ _) (by simp <;> omega) _ _, cell_zset (cell_zset (cell_keep (cell_keep d1 bx1) bx2) (by simp <;> omega) _ _) (by simp <;> omega) _ _, cell_zset (cell_zset (cell_keep (cell_keep x0 bx1) bx2) hz2 _ _) hz3 _ _, cell_zset (cell_zset (cell_keep (cell_keep x1 bx1) bx2) hz2 _ _) hz3 _ _⟩)
          (first
            | (go_at_call 41; refine Calls.mono (qmul_any (a := zi true (x / y)) (b := b) (L := L + 1) (M := L) (st.out.2.2.1.1.2.more (by omega)) st.out.2.2.1.1.1.1.1.1.2.2.1 (by omega) (by omega)) ?_; rintro e w16 ⟨v16, rfl, q16, bx1⟩)
            | (go_at_call 40; refine Calls.mono (qsub_any (a := a) (b := (zi true (x / y)) * b) (L := L) (M := L + 1 + L) (K := L + 1 + L) (st.out.2.2.1.1.1.1.1.1.2.1.step bx1) q16 (by omega) (by omega) (by omega)) ?_; rintro e wx ⟨v17, rfl, q17, bx2⟩; obtain ⟨s17, x17, A17, n17, c17, rfl, -, -, -⟩ := id q17.parts; have bx := Below.step1 bx1 bx2; have st := hide (Sg.call (G := fun W => Qi W (zv s17 (.slice A17 n17 c17)) (a - (zi true (x / y)) * b) (L + 1 + L + 1)) st.out bx (Firm2.and (Firm2.and (Firm2.and (Firm2.and (Firm2.and (Firm2.and Firm2.yes (Firm2.and (Firm2.qi _ _ _) (Firm2.and (Firm2.qi _ _ _) (Firm2.and (Firm2.ic _ _ _) (Firm2.ic _ _ _))))) (Firm2.ic _ _ _)) (Firm2.ic _ _ _)) (Firm2.qi _ _ _)) (Firm2.qi _ _ _)) Firm2.yes) q17); have k0 : wx.cell? ⟨w.heap.size + 1 + 1, 0, none⟩ = some (.bool false) := (Sg.cells st.out 2 _ _ _ rfl rfl 0).1; have k1 : wx.cell? ⟨w.heap.size + 1 + 1, 1, none⟩ = some (.slice none 0 0) := (Sg.cells st.out 2 _ _ _ rfl rfl 1).1; have k2 : wx.cell? ⟨w.heap.size + 1 + 1 + 1, 0, none⟩ = some (.bool false) := (Sg.cells st.out 3 _ _ _ rfl rfl 0).1; have k3 : wx.cell? ⟨w.heap.size + 1 + 1 + 1, 1, none⟩ = some (.slice none 0 0) := (Sg.cells st.out 3 _ _ _ rfl rfl 1).1; have f0 : wx.frozen? ⟨w.heap.size + 1 + 1, 0, none⟩ = false := (Sg.cells st.out 2 _ _ _ rfl rfl 0).2; have f1 : wx.frozen? ⟨w.heap.size + 1 + 1, 1, none⟩ = false := (Sg.cells st.out 2 _ _ _ rfl rfl 1).2; have f2 : wx.frozen? ⟨w.heap.size + 1 + 1 + 1, 0, none⟩ = false := (Sg.cells st.out 3 _ _ _ rfl rfl 0).2; have f3 : wx.frozen? ⟨w.heap.size + 1 + 1 + 1, 1, none⟩ = false := (Sg.cells st.out 3 _ _ _ rfl rfl 1).2; have st := hide (Sg.put st.out (Firm2.and (Firm2.and (Firm2.and (Firm2.and (Firm2.and (Firm2.and (Firm2.and Firm2.yes (Firm2.and (Firm2.qi _ _ _) (Firm2.and (Firm2.qi _ _ _) (Firm2.and (Firm2.ic _ _ _) (Firm2.ic _ _ _))))) (Firm2.ic _ _ _)) (Firm2.ic _ _ _)) (Firm2.qi _ _ _)) (Firm2.qi _ _ _)) Firm2.yes) (Firm2.qi _ _ _)) 2 _ 0 _ _ (.bool s11) rfl rfl rfl); have st := hide (Sg.put st.out (Firm2.and (Firm2.and (Firm2.and (Firm2.and (Firm2.and (Firm2.and (Firm2.and Firm2.yes (Firm2.and (Firm2.qi _ _ _) (Firm2.and (Firm2.qi _ _ _) (Firm2.and (Firm2.ic _ _ _) (Firm2.ic _ _ _))))) (Firm2.ic _ _ _)) (Firm2.ic _ _ _)) (Firm2.qi _ _ _)) (Firm2.qi _ _ _)) Firm2.yes) (Firm2.qi _ _ _)) 2 _ 1 _ _ (.slice A11 n11 c11) rfl rfl rfl); have st := hide (Sg.put st.out (Firm2.and (Firm2.and (Firm2.and (Firm2.and (Firm2.and (Firm2.and (Firm2.and Firm2.yes (Firm2.and (Firm2.qi _ _ _) (Firm2.and (Firm2.qi _ _ _) (Firm2.and (Firm2.ic _ _ _) (Firm2.ic _ _ _))))) (Firm2.ic _ _ _)) (Firm2.ic _ _ _)) (Firm2.qi _ _ _)) (Firm2.qi _ _ _)) Firm2.yes) (Firm2.qi _ _ _)) 3 _ 0 _ _ (.bool s17) rfl rfl rfl); have st := hide (Sg.put st.out (Firm2.and (Firm2.and (Firm2.and (Firm2.and (Firm2.and (Firm2.and (Firm2.and Firm2.yes (Firm2.and (Firm2.qi _ _ _) (Firm2.and (Firm2.qi _ _ _) (Firm2.and (Firm2.ic _ _ _) (Firm2.ic _ _ _))))) (Firm2.ic _ _ _)) (Firm2.ic _ _ _)) (Firm2.qi _ _ _)) (Firm2.qi _ _ _)) Firm2.yes) (Firm2.qi _ _ _)) 3 _ 1 _ _ (.slice A17 n17 c17) rfl rfl rfl)))
        all_goals
          clear a0 a1 d0 d1 x0 x1 k0 k1 k2 k3 f0 f1 f2 f3
          go_wp2_with fail
          refine bodyPost_ret (qret22 (p := 4) (q := 5) rfl _ _ (w.heap.size + 1 + 1) (w.heap.size + 1 + 1 + 1) #[.bool s11, .slice A11 n11 c11] #[.bool s17, .slice A17 n17 c17] rfl rfl rfl rfl (st.out.2.2.2.1 2 _ _ rfl rfl).1 (st.out.2.2.2.1 3 _ _ rfl rfl).1) rfl ?_
          refine ⟨_, _, rfl, ?_, ?_, st.out.1⟩
          · rw [HZQ.out]; exact st.out.2.2.1.1.1.2.more (by omega)
          · unfold zr; rw [HZQ.out]; exact st.out.2.2.1.2
      · have HZQ : Hid (zq a b = zi true (x / y) - 1) := hide (by rw [← hza, ← hzb, (zq_odd hst hP hr).1]; unfold zi; simp; omega)
        have t1 : decide ((0 : Int) < (lr : Int)) = true := decide_eq_true (by have := (not_congr hr0).1 hr; omega)
        have t2 : decide (0 < lr) = true := decide_eq_true (by have := (not_congr hr0).1 hr; omega)
        clear hza hzb hs ht hx hy hP hneg hr0 ia ib hu hv hb0 hr hn hs0 hst
        have st : Hid (Sg w.heap.size w (((((w.alloc (qbox s (.slice A n c))).alloc (qbox true (.slice D m d))).alloc qblk).alloc qblk).alloc (qbox s (.slice A n c))) _ _ _) := ST
        have a0 : (((((w.alloc (qbox s (.slice A n c))).alloc (qbox true (.slice D m d))).alloc qblk).alloc qblk).alloc (qbox s (.slice A n c))).cell? ⟨w.heap.size, 0, none⟩ = some (.bool s) := (Sg.cells st.out 0 _ _ _ rfl rfl 0).1
        have a1 : (((((w.alloc (qbox s (.slice A n c))).alloc (qbox true (.slice D m d))).alloc qblk).alloc qblk).alloc (qbox s (.slice A n c))).cell? ⟨w.heap.size, 1, none⟩ = some (.slice A n c) := (Sg.cells st.out 0 _ _ _ rfl rfl 1).1
        have d0 : (((((w.alloc (qbox s (.slice A n c))).alloc (qbox true (.slice D m d))).alloc qblk).alloc qblk).alloc (qbox s (.slice A n c))).cell? ⟨w.heap.size + 1, 0, none⟩ = some (.bool true) := (Sg.cells st.out 1 _ _ _ rfl rfl 0).1
        have d1 : (((((w.alloc (qbox s (.slice A n c))).alloc (qbox true (.slice D m d))).alloc qblk).alloc qblk).alloc (qbox s (.slice A n c))).cell? ⟨w.heap.size + 1, 1, none⟩ = some (.slice D m d) := (Sg.cells st.out 1 _ _ _ rfl rfl 1).1
        have x0 : (((((w.alloc (qbox s (.slice A n c))).alloc (qbox true (.slice D m d))).alloc qblk).alloc qblk).alloc (qbox s (.slice A n c))).cell? ⟨w.heap.size + 1 + 1 + 1 + 1, 0, none⟩ = some (.bool s) := (Sg.cells st.out 4 _ _ _ rfl rfl 0).1
        have x1 : (((((w.alloc (qbox s (.slice A n c))).alloc (qbox true (.slice D m d))).alloc qblk).alloc qblk).alloc (qbox s (.slice A n c))).cell? ⟨w.heap.size + 1 + 1 + 1 + 1, 1, none⟩ = some (.slice A n c) := (Sg.cells st.out 4 _ _ _ rfl rfl 1).1
        go_enter Tryd.func14, Tryd.ntmps14
        go_wp2_with fail
        generalize hW5 : (((((w.alloc (qbox s (.slice A n c))).alloc (qbox true (.slice D m d))).alloc qblk).alloc qblk).alloc (qbox s (.slice A n c))) = w5 at *
        refine (qneg_any st.out.2.2.1.2.1 (by omega)).mono ?_
        rintro e w6 ⟨v6, rfl, q6, bx⟩
        obtain ⟨u6, rfl, i6⟩ := q6
        obtain ⟨A6, n6, c6, rfl⟩ := i6.iw.slice
        rw [HX.out] at i6
        rw [HS.out]
        have st := hide (Sg.call (G := fun W => Ic W (.slice A6 n6 c6) x L) st.out bx (Firm2.and Firm2.yes (Firm2.and (Firm2.qi _ _ _) (Firm2.and (Firm2.qi _ _ _) (Firm2.and (Firm2.ic _ _ _) (Firm2.ic _ _ _))))) i6)
        clear a0 a1 d0 d1 x0 x1 bx i6 hW5
        have x0 : w6.cell? ⟨w.heap.size + 1 + 1 + 1 + 1, 0, none⟩ = some (.bool s) := (Sg.cells st.out 4 _ _ _ rfl rfl 0).1
        have x1 : w6.cell? ⟨w.heap.size + 1 + 1 + 1 + 1, 1, none⟩ = some (.slice A n c) := (Sg.cells st.out 4 _ _ _ rfl rfl 1).1
        have d1 : w6.cell? ⟨w.heap.size + 1, 1, none⟩ = some (.slice D m d) := (Sg.cells st.out 1 _ _ _ rfl rfl 1).1
        have f0 : w6.frozen? ⟨w.heap.size + 1 + 1 + 1 + 1, 0, none⟩ = false := (Sg.cells st.out 4 _ _ _ rfl rfl 0).2
        have f1 : w6.frozen? ⟨w.heap.size + 1 + 1 + 1 + 1, 1, none⟩ = false := (Sg.cells st.out 4 _ _ _ rfl rfl 1).2
        have st := hide (Sg.put st.out (Firm2.and (Firm2.and Firm2.yes (Firm2.and (Firm2.qi _ _ _) (Firm2.and (Firm2.qi _ _ _) (Firm2.and (Firm2.ic _ _ _) (Firm2.ic _ _ _))))) (Firm2.ic _ _ _)) 4 _ 0 _ _ (.bool true) rfl rfl rfl)
        have st := hide (Sg.put st.out (Firm2.and (Firm2.and Firm2.yes (Firm2.and (Firm2.qi _ _ _) (Firm2.and (Firm2.qi _ _ _) (Firm2.and (Firm2.ic _ _ _) (Firm2.ic _ _ _))))) (Firm2.ic _ _ _)) 4 _ 1 _ _ (.slice A6 n6 c6) rfl rfl rfl)
        go_wp2_with fail
        clear x0 x1 d1 f0 f1
        generalize ((w6.setCell ⟨w.heap.size + 1 + 1 + 1 + 1, 0, none⟩ _).setCell ⟨w.heap.size + 1 + 1 + 1 + 1, 1, none⟩ _) = w7 at *
        refine (idivmod (L := L) (M := L) st.out.2.2.1.2 st.out.2.2.1.1.2.2.2.2.iw HP.out (by omega) (by omega)).mono ?_
        rintro e w8 ⟨q8, r8, rfl, -, -, iq, ir, bx⟩
        obtain ⟨Aq, nq, cq, rfl⟩ := iq.iw.slice
        obtain ⟨Ar, cr, hr8, -⟩ := id ir
        rw [HLR.out] at hr8
        subst hr8
        have st := hide (Sg.call (G := fun W => Ic W (.slice Aq nq cq) (x / y) L) st.out bx (Firm2.and (Firm2.and Firm2.yes (Firm2.and (Firm2.qi _ _ _) (Firm2.and (Firm2.qi _ _ _) (Firm2.and (Firm2.ic _ _ _) (Firm2.ic _ _ _))))) (Firm2.ic _ _ _)) iq)
        clear bx iq ir
        go_wp2_with fail
        refine (form_any (s := false) (z := zi false (x / y)) (L := L) st.out.2.2.1.2.iw (by omega) rfl).mono ?_
        rintro e w9 ⟨v9, rfl, q9, bx⟩
        obtain ⟨s9, x9, A9, n9, c9, rfl, -, -, -⟩ := id q9.parts
        have st := hide (Sg.call (G := fun W => Qi W (zv s9 (.slice A9 n9 c9)) (zi false (x / y)) L) st.out bx (Firm2.and (Firm2.and (Firm2.and Firm2.yes (Firm2.and (Firm2.qi _ _ _) (Firm2.and (Firm2.qi _ _ _) (Firm2.and (Firm2.ic _ _ _) (Firm2.ic _ _ _))))) (Firm2.ic _ _ _)) (Firm2.ic _ _ _)) q9)
        have st := hide (Sg.push st.out (Firm2.and (Firm2.and (Firm2.and (Firm2.and Firm2.yes (Firm2.and (Firm2.qi _ _ _) (Firm2.and (Firm2.qi _ _ _) (Firm2.and (Firm2.ic _ _ _) (Firm2.ic _ _ _))))) (Firm2.ic _ _ _)) (Firm2.ic _ _ _)) (Firm2.qi _ _ _)) (qbox s9 (.slice A9 n9 c9)) rfl)
        obtain ⟨gz, hgz⟩ : ∃ g, w9.heap.size = g := ⟨_, rfl⟩
        rw [hgz] at st
        have x0 : (w9.alloc (qbox s9 (.slice A9 n9 c9))).cell? ⟨w.heap.size + 1 + 1 + 1 + 1, 0, none⟩ = some (.bool true) := (Sg.cells st.out 4 _ _ _ rfl rfl 0).1
        clear bx q9
        go_wp2_with fail
        generalize hW10 : (w9.alloc (qbox s9 (.slice A9 n9 c9))) = w10 at *
        clear x0 hW10 hgz
        refine (form_any (s := true) (z := zi true (x / y)) (L := L) st.out.2.2.1.1.2.iw (by omega) rfl).mono ?_
        rintro e w11 ⟨v11, rfl, q11, bx⟩
        obtain ⟨s11, x11, A11, n11, c11, rfl, -, -, -⟩ := id q11.parts
        have st := hide (Sg.call (G := fun W => Qi W (zv s11 (.slice A11 n11 c11)) (zi true (x / y)) L) st.out bx (Firm2.and (Firm2.and (Firm2.and (Firm2.and Firm2.yes (Firm2.and (Firm2.qi _ _ _) (Firm2.and (Firm2.qi _ _ _) (Firm2.and (Firm2.ic _ _ _) (Firm2.ic _ _ _))))) (Firm2.ic _ _ _)) (Firm2.ic _ _ _)) (Firm2.qi _ _ _)) q11)
        clear bx q11
        have x0 : w11.cell? ⟨gz, 0, none⟩ = some (.bool s9) := (Sg.cells st.out 5 _ _ _ rfl rfl 0).1
        have x1 : w11.cell? ⟨gz, 1, none⟩ = some (.slice A9 n9 c9) := (Sg.cells st.out 5 _ _ _ rfl rfl 1).1
        have f0 : w11.frozen? ⟨gz, 0, none⟩ = false := (Sg.cells st.out 5 _ _ _ rfl rfl 0).2
        have f1 : w11.frozen? ⟨gz, 1, none⟩ = false := (Sg.cells st.out 5 _ _ _ rfl rfl 1).2
        have st := hide (Sg.put st.out (Firm2.and (Firm2.and (Firm2.and (Firm2.and (Firm2.and Firm2.yes (Firm2.and (Firm2.qi _ _ _) (Firm2.and (Firm2.qi _ _ _) (Firm2.and (Firm2.ic _ _ _) (Firm2.ic _ _ _))))) (Firm2.ic _ _ _)) (Firm2.ic _ _ _)) (Firm2.qi _ _ _)) (Firm2.qi _ _ _)) 5 _ 0 _ _ (.bool s11) rfl rfl rfl)
        have st := hide (Sg.put st.out (Firm2.and (Firm2.and (Firm2.and (Firm2.and (Firm2.and Firm2.yes (Firm2.and (Firm2.qi _ _ _) (Firm2.and (Firm2.qi _ _ _) (Firm2.and (Firm2.ic _ _ _) (Firm2.ic _ _ _))))) (Firm2.ic _ _ _)) (Firm2.ic _ _ _)) (Firm2.qi _ _ _)) (Firm2.qi _ _ _)) 5 _ 1 _ _ (.slice A11 n11 c11) rfl rfl rfl)
        go_wp2_with fail
        clear x0 x1 f0 f1
        generalize ((w11.setCell ⟨gz, 0, none⟩ _).setCell ⟨gz, 1, none⟩ _) = w12 at *
        have bx := Below.drew (Below.refl w12.heap.size w12)
        have st := hide (Sg.call (G := fun W => True) st.out bx (Firm2.and (Firm2.and (Firm2.and (Firm2.and (Firm2.and Firm2.yes (Firm2.and (Firm2.qi _ _ _) (Firm2.and (Firm2.qi _ _ _) (Firm2.and (Firm2.ic _ _ _) (Firm2.ic _ _ _))))) (Firm2.ic _ _ _)) (Firm2.ic _ _ _)) (Firm2.qi _ _ _)) (Firm2.qi _ _ _)) trivial)
        clear bx
        have x0 : w12.drew.cell? ⟨gz, 0, none⟩ = some (.bool s11) := (Sg.cells st.out 5 _ _ _ rfl rfl 0).1
        have x1 : w12.drew.cell? ⟨gz, 1, none⟩ = some (.slice A11 n11 c11) := (Sg.cells st.out 5 _ _ _ rfl rfl 1).1
        go_region_with (first
            | (go_at_call 29; refine Calls.mono (qsmall_any _ 1 (by omega) (by omega)) ?_; rintro e w13 ⟨v13, rfl, q1, bx1⟩; have z0 := cell_keep x0 bx1; have z1 := cell_keep x1 bx1)
            | (go_at_call 40; refine Calls.mono (qsub_any (a := zi true (x / y)) (b := 1) (L := L) (M := L) (K := L) (st.out.2.2.1.1.2.step bx1) (q1.more (by omega)) (by omega) (by omega) (by omega)) ?_; rintro e wx ⟨v14, rfl, q14, bx2⟩; obtain ⟨s14, x14, A14, n14, c14, rfl, -, -, -⟩ := id q14.parts; have bx := Below.step1 bx1 bx2; have st := hide (Sg.call (G := fun W => Qi W (zv s14 (.slice A14 n14 c14)) (zi true (x / y) - 1) (L + 1)) st.out bx (Firm2.and (Firm2.and (Firm2.and (Firm2.and (Firm2.and (Firm2.and Firm2.yes (Firm2.and (Firm2.qi _ _ _) (Firm2.and (Firm2.qi _ _ _) (Firm2.and (Firm2.ic _ _ _) (Firm2.ic _ _ _))))) (Firm2.ic _ _ _)) (Firm2.ic _ _ _)) (Firm2.qi _ _ _)) (Firm2.qi _ _ _)) Firm2.yes) q14); have y0 : wx.cell? ⟨gz, 0, none⟩ = some (.bool s11) := (Sg.cells st.out 5 _ _ _ rfl rfl 0).1; have y1 : wx.cell? ⟨gz, 1, none⟩ = some (.slice A11 n11 c11) := (Sg.cells st.out 5 _ _ _ rfl rfl 1).1; have f0 : wx.frozen? ⟨gz, 0, none⟩ = false := (Sg.cells st.out 5 _ _ _ rfl rfl 0).2; have f1 : wx.frozen? ⟨gz, 1, none⟩ = false := (Sg.cells st.out 5 _ _ _ rfl rfl 1).2; have st := hide (Sg.put st.out (Firm2.and (Firm2.and (Firm2.and (Firm2.and (Firm2.and (Firm2.and (Firm2.and Firm2.yes (Firm2.and (Firm2.qi _ _ _) (Firm2.and (Firm2.qi _ _ _) (Firm2.and (Firm2.ic _ _ _) (Firm2.ic _ _ _))))) (Firm2.ic _ _ _)) (Firm2.ic _ _ _)) (Firm2.qi _ _ _)) (Firm2.qi _ _ _)) Firm2.yes) (Firm2.qi _ _ _)) 5 _ 0 _ _ (.bool s14) rfl rfl rfl); have st := hide (Sg.put st.out (Firm2.and (Firm2.and (Firm2.and (Firm2.and (Firm2.and (Firm2.and (Firm2.and Firm2.yes (Firm2.and (Firm2.qi _ _ _) (Firm2.and (Firm2.qi _ _ _) (Firm2.and (Firm2.ic _ _ _) (Firm2.ic _ _ _))))) (Firm2.ic _ _ _)) (Firm2.ic _ _ _)) (Firm2.qi _ _ _)) (Firm2.qi _ _ _)) Firm2.yes) (Firm2.qi _ _ _)) 5 _ 1 _ _ (.slice A14 n14 c14) rfl rfl rfl)))
        all_goals
          go_wp2_with fail
          clear x0 x1 y0 y1 f0 f1
          generalize ((wx.setCell ⟨gz, 0, none⟩ _).setCell ⟨gz, 1, none⟩ _) = w15 at *
          have bx := Below.drew (Below.refl w15.heap.size w15)
          have st := hide (Sg.call (G := fun W => True) st.out bx (Firm2.and (Firm2.and (Firm2.and (Firm2.and (Firm2.and (Firm2.and (Firm2.and Firm2.yes (Firm2.and (Firm2.qi _ _ _) (Firm2.and (Firm2.qi _ _ _) (Firm2.and (Firm2.ic _ _ _) (Firm2.ic _ _ _))))) (Firm2.ic _ _ _)) (Firm2.ic _ _ _)) (Firm2.qi _ _ _)) (Firm2.qi _ _ _)) Firm2.yes) (Firm2.qi _ _ _)) trivial)
          clear bx
          have a0 : w15.drew.cell? ⟨w.heap.size, 0, none⟩ = some (.bool s) := (Sg.cells st.out 0 _ _ _ rfl rfl 0).1
          have a1 : w15.drew.cell? ⟨w.heap.size, 1, none⟩ = some (.slice A n c) := (Sg.cells st.out 0 _ _ _ rfl rfl 1).1
          have d0 : w15.drew.cell? ⟨w.heap.size + 1, 0, none⟩ = some (.bool true) := (Sg.cells st.out 1 _ _ _ rfl rfl 0).1
          have d1 : w15.drew.cell? ⟨w.heap.size + 1, 1, none⟩ = some (.slice D m d) := (Sg.cells st.out 1 _ _ _ rfl rfl 1).1
          have x0 : w15.drew.cell? ⟨gz, 0, none⟩ = some (.bool s14) := (Sg.cells st.out 5 _ _ _ rfl rfl 0).1
          have x1 : w15.drew.cell? ⟨gz, 1, none⟩ = some (.slice A14 n14 c14) := (Sg.cells st.out 5 _ _ _ rfl rfl 1).1
          have hz2 : gz ≠ w.heap.size + 1 + 1 := fun h => absurd (st.out.2.2.2.2 5 2 gz rfl (by rw [h]; rfl)) (by omega)
          have hz3 : gz ≠ w.heap.size + 1 + 1 + 1 := fun h => absurd (st.out.2.2.2.2 5 3 gz rfl (by rw [h]; rfl)) (by omega)
          go_region_held3 (fun W => W.cell? ⟨w.heap.size, 0, none⟩ = some (.bool s) ∧ W.cell? ⟨w.heap.size, 1, none⟩ = some (.slice A n c) ∧ W.cell? ⟨w.heap.size + 1, 0, none⟩ = some (.bool true) ∧ W.cell? ⟨w.heap.size + 1, 1, none⟩ = some (.slice D m d) ∧ W.cell? ⟨gz, 0, none⟩ = some (.bool s14) ∧ W.cell? ⟨gz, 1, none⟩ = some (.slice A14 n14 c14))
            (first | with_reducible exact ⟨a0, a1, d0, d1, x0, x1⟩ | with_reducible exact ⟨cell_keep a0 bx1, cell_keep a1 bx1, cell_keep d0 bx1, cell_keep d1 bx1, cell_keep x0 bx1, cell_keep x1 bx1⟩ | with_reducible exact ⟨cell_keep (cell_keep a0 bx1) bx2, cell_keep (cell_keep a1 bx1) bx2, cell_keep (cell_keep d0 bx1) bx2, cell_keep (cell_keep d1 bx1) bx2, cell_keep (cell_keep x0 bx1) bx2, cell_keep (cell_keep x1 bx1) bx2⟩ | with_reducible exact ⟨cell_zset (cell_keep (cell_keep a0 bx1) bx2) (by simp <;> omega) _ _, cell_zset (cell_keep (cell_keep a1 bx1) bx2) (by simp <;> omega) _ _, cell_zset (cell_keep (cell_keep d0 bx1) bx2) (by simp <;> omega) _ _, cell_zset (cell_keep (cell_keep d1 bx1) bx2) (by simp <;> omega) _ _, cell_zset (cell_keep (cell_keep x0 bx1) bx2) hz2 _ _, cell_zset (cell_keep (cell_keep x1 bx1) bx2) hz2 _ _⟩ | with_reducible exact ⟨cell_zset (cell_zset (cell_keep (cell_keep a0 bx1) bx2) (by simp <;> omega) _ _) (by simp <;> omega) _ _, cell_zset (cell_zset (cell_keep (cell_keep a1 bx1) bx2) (by simp <;> omega) _ _) (by simp <;> omega) _ _, cell_zset (cell_zset (cell_keep (cell_keep d0 bx1) bx2) (by simp <;> omega) _ _) (by simp <;> omega) _ _, cell_zset (cell_zset (cell_keep (cell_keep d1 bx1) bx2) (by simp <;> omega) _ _) (by simp <;> omega) _ _, cell_zset (cell_zset (cell_keep (cell_keep x0 bx1) bx2) hz2 _ _) hz3 _ _, cell_zset (cell_zset (cell_keep (cell_keep x1 bx1) bx2) hz2 _ _) hz3 _ _⟩)
            (first
              | (go_at_call 41; refine Calls.mono (qmul_any (a := zi true (x / y) - 1) (b := b) (L := L + 1) (M := L) (st.out.2.2.1.1.2.more (by omega)) st.out.2.2.1.1.1.1.1.1.1.1.2.2.1 (by omega) (by omega)) ?_; rintro e w16 ⟨v16, rfl, q16, bx1⟩)
              | (go_at_call 40; refine Calls.mono (qsub_any (a := a) (b := (zi true (x / y) - 1) * b) (L := L) (M := L + 1 + L) (K := L + 1 + L) (st.out.2.2.1.1.1.1.1.1.1.1.2.1.step bx1) q16 (by omega) (by omega) (by omega)) ?_; rintro e wx ⟨v17, rfl, q17, bx2⟩; obtain ⟨s17, x17, A17, n17, c17, rfl, -, -, -⟩ := id q17.parts; have bx := Below.step1 bx1 bx2; have st := hide (Sg.call (G := fun W => Qi W (zv s17 (.slice A17 n17 c17)) (a - (zi true (x / y) - 1) * b) (L + 1 + L + 1)) st.out bx (Firm2.and (Firm2.and (Firm2.and (Firm2.and (Firm2.and (Firm2.and (Firm2.and (Firm2.and Firm2.yes (Firm2.and (Firm2.qi _ _ _) (Firm2.and (Firm2.qi _ _ _) (Firm2.and (Firm2.ic _ _ _) (Firm2.ic _ _ _))))) (Firm2.ic _ _ _)) (Firm2.ic _ _ _)) (Firm2.qi _ _ _)) (Firm2.qi _ _ _)) Firm2.yes) (Firm2.qi _ _ _)) Firm2.yes) q17); have k0 : wx.cell? ⟨w.heap.size + 1 + 1, 0, none⟩ = some (.bool false) := (Sg.cells st.out 2 _ _ _ rfl rfl 0).1; have k1 : wx.cell? ⟨w.heap.size + 1 + 1, 1, none⟩ = some (.slice none 0 0) := (Sg.cells st.out 2 _ _ _ rfl rfl 1).1; have k2 : wx.cell? ⟨w.heap.size + 1 + 1 + 1, 0, none⟩ = some (.bool false) := (Sg.cells st.out 3 _ _ _ rfl rfl 0).1; have k3 : wx.cell? ⟨w.heap.size + 1 + 1 + 1, 1, none⟩ = some (.slice none 0 0) := (Sg.cells st.out 3 _ _ _ rfl rfl 1).1; have f0 : wx.frozen? ⟨w.heap.size + 1 + 1, 0, none⟩ = false := (Sg.cells st.out 2 _ _ _ rfl rfl 0).2; have f1 : wx.frozen? ⟨w.heap.size + 1 + 1, 1, none⟩ = false := (Sg.cells st.out 2 _ _ _ rfl rfl 1).2; have f2 : wx.frozen? ⟨w.heap.size + 1 + 1 + 1, 0, none⟩ = false := (Sg.cells st.out 3 _ _ _ rfl rfl 0).2; have f3 : wx.frozen? ⟨w.heap.size + 1 + 1 + 1, 1, none⟩ = false := (Sg.cells st.out 3 _ _ _ rfl rfl 1).2; have st := hide (Sg.put st.out (Firm2.and (Firm2.and (Firm2.and (Firm2.and (Firm2.and (Firm2.and (Firm2.and (Firm2.and (Firm2.and Firm2.yes (Firm2.and (Firm2.qi _ _ _) (Firm2.and (Firm2.qi _ _ _) (Firm2.and (Firm2.ic _ _ _) (Firm2.ic _ _ _))))) (Firm2.ic _ _ _)) (Firm2.ic _ _ _)) (Firm2.qi _ _ _)) (Firm2.qi _ _ _)) Firm2.yes) (Firm2.qi _ _ _)) Firm2.yes) (Firm2.qi _ _ _)) 2 _ 0 _ _ (.bool s14) rfl rfl rfl); have st := hide (Sg.put st.out (Firm2.and (Firm2.and (Firm2.and (Firm2.and (Firm2.and (Firm2.and (Firm2.and (Firm2.and (Firm2.and Firm2.yes (Firm2.and (Firm2.qi _ _ _) (Firm2.and (Firm2.qi _ _ _) (Firm2.and (Firm2.ic _ _ _) (Firm2.ic _ _ _))))) (Firm2.ic _ _ _)) (Firm2.ic _ _ _)) (Firm2.qi _ _ _)) (Firm2.qi _ _ _)) Firm2.yes) (Firm2.qi _ _ _)) Firm2.yes) (Firm2.qi _ _ _)) 2 _ 1 _ _ (.slice A14 n14 c14) rfl rfl rfl); have st := hide (Sg.put st.out (Firm2.and (Firm2.and (Firm2.and (Firm2.and (Firm2.and (Firm2.and (Firm2.and (Firm2.and (Firm2.and Firm2.yes (Firm2.and (Firm2.qi _ _ _) (Firm2.and (Firm2.qi _ _ _) (Firm2.and (Firm2.ic _ _ _) (Firm2.ic _ _ _))))) (Firm2.ic _ _ _)) (Firm2.ic _ _ _)) (Firm2.qi _ _ _)) (Firm2.qi _ _ _)) Firm2.yes) (Firm2.qi _ _ _)) Firm2.yes) (Firm2.qi _ _ _)) 3 _ 0 _ _ (.bool s17) rfl rfl rfl); have st := hide (Sg.put st.out (Firm2.and (Firm2.and (Firm2.and (Firm2.and (Firm2.and (Firm2.and (Firm2.and (Firm2.and (Firm2.and Firm2.yes (Firm2.and (Firm2.qi _ _ _) (Firm2.and (Firm2.qi _ _ _) (Firm2.and (Firm2.ic _ _ _) (Firm2.ic _ _ _))))) (Firm2.ic _ _ _)) (Firm2.ic _ _ _)) (Firm2.qi _ _ _)) (Firm2.qi _ _ _)) Firm2.yes) (Firm2.qi _ _ _)) Firm2.yes) (Firm2.qi _ _ _)) 3 _ 1 _ _ (.slice A17 n17 c17) rfl rfl rfl)))
          all_goals
            clear a0 a1 d0 d1 x0 x1 k0 k1 k2 k3 f0 f1 f2 f3
            go_wp2_with fail
            refine bodyPost_ret (qret22 (p := 4) (q := 5) rfl _ _ (w.heap.size + 1 + 1) (w.heap.size + 1 + 1 + 1) #[.bool s14, .slice A14 n14 c14] #[.bool s17, .slice A17 n17 c17] rfl rfl rfl rfl (st.out.2.2.2.1 2 _ _ rfl rfl).1 (st.out.2.2.2.1 3 _ _ rfl rfl).1) rfl ?_
            refine ⟨_, _, rfl, ?_, ?_, st.out.1⟩
            · rw [HZQ.out]; exact st.out.2.2.1.1.1.2.more (by omega)
            · unfold zr; rw [HZQ.out]; exact st.out.2.2.1.2
    · have HS : Hid (decide (-a < 0) = false) := hide (decide_eq_false hn)
      have HZQ : Hid (zq a b = zi false (x / y)) := hide (by
        cases s
        · have ha0 : a = 0 := by have : ¬ a < 0 := by simpa using hs
                                 omega
          have hx0 : x = 0 := by omega
          rw [ha0, hx0, Nat.zero_div]
          unfold zq zi
          split <;> simp
        · rw [← hza, ← hzb]; exact (zq_same hP).1)
      clear hza hzb hs ht hx hy hP hneg hr0 ia ib hu hv hb0 hn
      have st : Hid (Sg w.heap.size w (((((w.alloc (qbox s (.slice A n c))).alloc (qbox true (.slice D m d))).alloc qblk).alloc qblk).alloc (qbox s (.slice A n c))) _ _ _) := ST
      have a0 : (((((w.alloc (qbox s (.slice A n c))).alloc (qbox true (.slice D m d))).alloc qblk).alloc qblk).alloc (qbox s (.slice A n c))).cell? ⟨w.heap.size, 0, none⟩ = some (.bool s) := (Sg.cells st.out 0 _ _ _ rfl rfl 0).1
      have a1 : (((((w.alloc (qbox s (.slice A n c))).alloc (qbox true (.slice D m d))).alloc qblk).alloc qblk).alloc (qbox s (.slice A n c))).cell? ⟨w.heap.size, 1, none⟩ = some (.slice A n c) := (Sg.cells st.out 0 _ _ _ rfl rfl 1).1
      have d0 : (((((w.alloc (qbox s (.slice A n c))).alloc (qbox true (.slice D m d))).alloc qblk).alloc qblk).alloc (qbox s (.slice A n c))).cell? ⟨w.heap.size + 1, 0, none⟩ = some (.bool true) := (Sg.cells st.out 1 _ _ _ rfl rfl 0).1
      have d1 : (((((w.alloc (qbox s (.slice A n c))).alloc (qbox true (.slice D m d))).alloc qblk).alloc qblk).alloc (qbox s (.slice A n c))).cell? ⟨w.heap.size + 1, 1, none⟩ = some (.slice D m d) := (Sg.cells st.out 1 _ _ _ rfl rfl 1).1
      have x0 : (((((w.alloc (qbox s (.slice A n c))).alloc (qbox true (.slice D m d))).alloc qblk).alloc qblk).alloc (qbox s (.slice A n c))).cell? ⟨w.heap.size + 1 + 1 + 1 + 1, 0, none⟩ = some (.bool s) := (Sg.cells st.out 4 _ _ _ rfl rfl 0).1
      have x1 : (((((w.alloc (qbox s (.slice A n c))).alloc (qbox true (.slice D m d))).alloc qblk).alloc qblk).alloc (qbox s (.slice A n c))).cell? ⟨w.heap.size + 1 + 1 + 1 + 1, 1, none⟩ = some (.slice A n c) := (Sg.cells st.out 4 _ _ _ rfl rfl 1).1
      go_enter Tryd.func14, Tryd.ntmps14
      go_wp2_with fail
      generalize hW5 : (((((w.alloc (qbox s (.slice A n c))).alloc (qbox true (.slice D m d))).alloc qblk).alloc qblk).alloc (qbox s (.slice A n c))) = w5 at *
      refine (qneg_any st.out.2.2.1.2.1 (by omega)).mono ?_
      rintro e w6 ⟨v6, rfl, q6, bx⟩
      obtain ⟨u6, rfl, i6⟩ := q6
      obtain ⟨A6, n6, c6, rfl⟩ := i6.iw.slice
      rw [HX.out] at i6
      rw [HS.out]
      have st := hide (Sg.call (G := fun W => Ic W (.slice A6 n6 c6) x L) st.out bx (Firm2.and Firm2.yes (Firm2.and (Firm2.qi _ _ _) (Firm2.and (Firm2.qi _ _ _) (Firm2.and (Firm2.ic _ _ _) (Firm2.ic _ _ _))))) i6)
      clear a0 a1 d0 d1 x0 x1 bx i6 hW5
      have x0 : w6.cell? ⟨w.heap.size + 1 + 1 + 1 + 1, 0, none⟩ = some (.bool s) := (Sg.cells st.out 4 _ _ _ rfl rfl 0).1
      have x1 : w6.cell? ⟨w.heap.size + 1 + 1 + 1 + 1, 1, none⟩ = some (.slice A n c) := (Sg.cells st.out 4 _ _ _ rfl rfl 1).1
      have d1 : w6.cell? ⟨w.heap.size + 1, 1, none⟩ = some (.slice D m d) := (Sg.cells st.out 1 _ _ _ rfl rfl 1).1
      have f0 : w6.frozen? ⟨w.heap.size + 1 + 1 + 1 + 1, 0, none⟩ = false := (Sg.cells st.out 4 _ _ _ rfl rfl 0).2
      have f1 : w6.frozen? ⟨w.heap.size + 1 + 1 + 1 + 1, 1, none⟩ = false := (Sg.cells st.out 4 _ _ _ rfl rfl 1).2
      have st := hide (Sg.put st.out (Firm2.and (Firm2.and Firm2.yes (Firm2.and (Firm2.qi _ _ _) (Firm2.and (Firm2.qi _ _ _) (Firm2.and (Firm2.ic _ _ _) (Firm2.ic _ _ _))))) (Firm2.ic _ _ _)) 4 _ 0 _ _ (.bool false) rfl rfl rfl)
      have st := hide (Sg.put st.out (Firm2.and (Firm2.and Firm2.yes (Firm2.and (Firm2.qi _ _ _) (Firm2.and (Firm2.qi _ _ _) (Firm2.and (Firm2.ic _ _ _) (Firm2.ic _ _ _))))) (Firm2.ic _ _ _)) 4 _ 1 _ _ (.slice A6 n6 c6) rfl rfl rfl)
      go_wp2_with fail
      clear x0 x1 d1 f0 f1
      generalize ((w6.setCell ⟨w.heap.size + 1 + 1 + 1 + 1, 0, none⟩ _).setCell ⟨w.heap.size + 1 + 1 + 1 + 1, 1, none⟩ _) = w7 at *
      refine (idivmod (L := L) (M := L) st.out.2.2.1.2 st.out.2.2.1.1.2.2.2.2.iw HP.out (by omega) (by omega)).mono ?_
      rintro e w8 ⟨q8, r8, rfl, -, -, iq, ir, bx⟩
      obtain ⟨Aq, nq, cq, rfl⟩ := iq.iw.slice
      obtain ⟨Ar, cr, hr8, -⟩ := id ir
      rw [HLR.out] at hr8
      subst hr8
      have st := hide (Sg.call (G := fun W => Ic W (.slice Aq nq cq) (x / y) L) st.out bx (Firm2.and (Firm2.and Firm2.yes (Firm2.and (Firm2.qi _ _ _) (Firm2.and (Firm2.qi _ _ _) (Firm2.and (Firm2.ic _ _ _) (Firm2.ic _ _ _))))) (Firm2.ic _ _ _)) iq)
      clear bx iq ir
      go_wp2_with fail
      refine (form_any (s := false) (z := zi false (x / y)) (L := L) st.out.2.2.1.2.iw (by omega) rfl).mono ?_
      rintro e w9 ⟨v9, rfl, q9, bx⟩
      obtain ⟨s9, x9, A9, n9, c9, rfl, -, -, -⟩ := id q9.parts
      have st := hide (Sg.call (G := fun W => Qi W (zv s9 (.slice A9 n9 c9)) (zi false (x / y)) L) st.out bx (Firm2.and (Firm2.and (Firm2.and Firm2.yes (Firm2.and (Firm2.qi _ _ _) (Firm2.and (Firm2.qi _ _ _) (Firm2.and (Firm2.ic _ _ _) (Firm2.ic _ _ _))))) (Firm2.ic _ _ _)) (Firm2.ic _ _ _)) q9)
      have st := hide (Sg.push st.out (Firm2.and (Firm2.and (Firm2.and (Firm2.and Firm2.yes (Firm2.and (Firm2.qi _ _ _) (Firm2.and (Firm2.qi _ _ _) (Firm2.and (Firm2.ic _ _ _) (Firm2.ic _ _ _))))) (Firm2.ic _ _ _)) (Firm2.ic _ _ _)) (Firm2.qi _ _ _)) (qbox s9 (.slice A9 n9 c9)) rfl)
      obtain ⟨gz, hgz⟩ : ∃ g, w9.heap.size = g := ⟨_, rfl⟩
      rw [hgz] at st
      have x0 : (w9.alloc (qbox s9 (.slice A9 n9 c9))).cell? ⟨w.heap.size + 1 + 1 + 1 + 1, 0, none⟩ = some (.bool false) := (Sg.cells st.out 4 _ _ _ rfl rfl 0).1
      clear bx q9
      go_wp2_with fail
      generalize hW10 : (w9.alloc (qbox s9 (.slice A9 n9 c9))) = w10 at *
      clear x0 hW10 hgz
      have bx := Below.drew (Below.refl w10.heap.size w10)
      have st := hide (Sg.call (G := fun W => True) st.out bx (Firm2.and (Firm2.and (Firm2.and (Firm2.and Firm2.yes (Firm2.and (Firm2.qi _ _ _) (Firm2.and (Firm2.qi _ _ _) (Firm2.and (Firm2.ic _ _ _) (Firm2.ic _ _ _))))) (Firm2.ic _ _ _)) (Firm2.ic _ _ _)) (Firm2.qi _ _ _)) trivial)
      clear bx
      have a0 : w10.drew.cell? ⟨w.heap.size, 0, none⟩ = some (.bool s) := (Sg.cells st.out 0 _ _ _ rfl rfl 0).1
      have a1 : w10.drew.cell? ⟨w.heap.size, 1, none⟩ = some (.slice A n c) := (Sg.cells st.out 0 _ _ _ rfl rfl 1).1
      have d0 : w10.drew.cell? ⟨w.heap.size + 1, 0, none⟩ = some (.bool true) := (Sg.cells st.out 1 _ _ _ rfl rfl 0).1
      have d1 : w10.drew.cell? ⟨w.heap.size + 1, 1, none⟩ = some (.slice D m d) := (Sg.cells st.out 1 _ _ _ rfl rfl 1).1
      have x0 : w10.drew.cell? ⟨gz, 0, none⟩ = some (.bool s9) := (Sg.cells st.out 5 _ _ _ rfl rfl 0).1
      have x1 : w10.drew.cell? ⟨gz, 1, none⟩ = some (.slice A9 n9 c9) := (Sg.cells st.out 5 _ _ _ rfl rfl 1).1
      have hz2 : gz ≠ w.heap.size + 1 + 1 := fun h => absurd (st.out.2.2.2.2 5 2 gz rfl (by rw [h]; rfl)) (by omega)
      have hz3 : gz ≠ w.heap.size + 1 + 1 + 1 := fun h => absurd (st.out.2.2.2.2 5 3 gz rfl (by rw [h]; rfl)) (by omega)
      go_region_held3 (fun W => W.cell? ⟨w.heap.size, 0, none⟩ = some (.bool s) ∧ W.cell? ⟨w.heap.size, 1, none⟩ = some (.slice A n c) ∧ W.cell? ⟨w.heap.size + 1, 0, none⟩ = some (.bool true) ∧ W.cell? ⟨w.heap.size + 1, 1, none⟩ = some (.slice D m d) ∧ W.cell? ⟨gz, 0, none⟩ = some (.bool s9) ∧ W.cell? ⟨gz, 1, none⟩ = some (.slice A9 n9 c9))
        (first | with_reducible exact ⟨a0, a1, d0, d1, x0, x1⟩ | with_reducible exact ⟨cell_keep a0 bx1, cell_keep a1 bx1, cell_keep d0 bx1, cell_keep d1 bx1, cell_keep x0 bx1, cell_keep x1 bx1⟩ | with_reducible exact ⟨cell_keep (cell_keep a0 bx1) bx2, cell_keep (cell_keep a1 bx1) bx2, cell_keep (cell_keep d0 bx1) bx2, cell_keep (cell_keep d1 bx1) bx2, cell_keep (cell_keep x0 bx1) bx2, cell_keep (cell_keep x1 bx1) bx2⟩ | with_reducible exact ⟨cell_zset (cell_keep (cell_keep a0 bx1) bx2) (by simp <;> omega) _ _, cell_zset (cell_keep (cell_keep a1 bx1) bx2) (by simp <;> omega) _ _, cell_zset (cell_keep (cell_keep d0 bx1) bx2) (by simp <;> omega) _ _, cell_zset (cell_keep (cell_keep d1 bx1) bx2) (by simp <;> omega) _ _, cell_zset (cell_keep (cell_keep x0 bx1) bx2) hz2 _ _, cell_zset (cell_keep (cell_keep x1 bx1) bx2) hz2 _ _⟩ | with_reducible exact ⟨cell_zset (cell_zset (cell_keep (cell_keep a0 bx1) bx2) (by simp <;> omega) _ _) (by simp <;> omega) _ _, cell_zset (cell_zset (cell_keep (cell_keep a1 bx1) bx2) (by simp <;> omega) _ _) (by simp <;> omega) _ _, cell_zset (cell_zset (cell_keep (cell_keep d0 bx1) bx2) (by simp <;> omega) _ _) (by simp <;> omega) _ _, cell_zset (cell_zset (cell_keep (cell_keep d1 bx1) bx2) (by simp <;> omega) _ _) (by simp <;> omega) _ _, cell_zset (cell_zset (cell_keep (cell_keep x0 bx1) bx2) hz2 _ _) hz3 _ _, cell_zset (cell_zset (cell_keep (cell_keep x1 bx1) bx2) hz2 _ _) hz3 _ _⟩)
        (first
          | (go_at_call 41; refine Calls.mono (qmul_any (a := zi false (x / y)) (b := b) (L := L + 1) (M := L) (st.out.2.2.1.1.2.more (by omega)) st.out.2.2.1.1.1.1.1.2.2.1 (by omega) (by omega)) ?_; rintro e w16 ⟨v16, rfl, q16, bx1⟩)
          | (go_at_call 40; refine Calls.mono (qsub_any (a := a) (b := (zi false (x / y)) * b) (L := L) (M := L + 1 + L) (K := L + 1 + L) (st.out.2.2.1.1.1.1.1.2.1.step bx1) q16 (by omega) (by omega) (by omega)) ?_; rintro e wx ⟨v17, rfl, q17, bx2⟩; obtain ⟨s17, x17, A17, n17, c17, rfl, -, -, -⟩ := id q17.parts; have bx := Below.step1 bx1 bx2; have st := hide (Sg.call (G := fun W => Qi W (zv s17 (.slice A17 n17 c17)) (a - (zi false (x / y)) * b) (L + 1 + L + 1)) st.out bx (Firm2.and (Firm2.and (Firm2.and (Firm2.and (Firm2.and Firm2.yes (Firm2.and (Firm2.qi _ _ _) (Firm2.and (Firm2.qi _ _ _) (Firm2.and (Firm2.ic _ _ _) (Firm2.ic _ _ _))))) (Firm2.ic _ _ _)) (Firm2.ic _ _ _)) (Firm2.qi _ _ _)) Firm2.yes) q17); have k0 : wx.cell? ⟨w.heap.size + 1 + 1, 0, none⟩ = some (.bool false) := (Sg.cells st.out 2 _ _ _ rfl rfl 0).1; have k1 : wx.cell? ⟨w.heap.size + 1 + 1, 1, none⟩ = some (.slice none 0 0) := (Sg.cells st.out 2 _ _ _ rfl rfl 1).1; have k2 : wx.cell? ⟨w.heap.size + 1 + 1 + 1, 0, none⟩ = some (.bool false) := (Sg.cells st.out 3 _ _ _ rfl rfl 0).1; have k3 : wx.cell? ⟨w.heap.size + 1 + 1 + 1, 1, none⟩ = some (.slice none 0 0) := (Sg.cells st.out 3 _ _ _ rfl rfl 1).1; have f0 : wx.frozen? ⟨w.heap.size + 1 + 1, 0, none⟩ = false := (Sg.cells st.out 2 _ _ _ rfl rfl 0).2; have f1 : wx.frozen? ⟨w.heap.size + 1 + 1, 1, none⟩ = false := (Sg.cells st.out 2 _ _ _ rfl rfl 1).2; have f2 : wx.frozen? ⟨w.heap.size + 1 + 1 + 1, 0, none⟩ = false := (Sg.cells st.out 3 _ _ _ rfl rfl 0).2; have f3 : wx.frozen? ⟨w.heap.size + 1 + 1 + 1, 1, none⟩ = false := (Sg.cells st.out 3 _ _ _ rfl rfl 1).2; have st := hide (Sg.put st.out (Firm2.and (Firm2.and (Firm2.and (Firm2.and (Firm2.and (Firm2.and Firm2.yes (Firm2.and (Firm2.qi _ _ _) (Firm2.and (Firm2.qi _ _ _) (Firm2.and (Firm2.ic _ _ _) (Firm2.ic _ _ _))))) (Firm2.ic _ _ _)) (Firm2.ic _ _ _)) (Firm2.qi _ _ _)) Firm2.yes) (Firm2.qi _ _ _)) 2 _ 0 _ _ (.bool s9) rfl rfl rfl); have st := hide (Sg.put st.out (Firm2.and (Firm2.and (Firm2.and (Firm2.and (Firm2.and (Firm2.and Firm2.yes (Firm2.and (Firm2.qi _ _ _) (Firm2.and (Firm2.qi _ _ _) (Firm2.and (Firm2.ic _ _ _) (Firm2.ic _ _ _))))) (Firm2.ic _ _ _)) (Firm2.ic _ _ _)) (Firm2.qi _ _ _)) Firm2.yes) (Firm2.qi _ _ _)) 2 _ 1 _ _ (.slice A9 n9 c9) rfl rfl rfl); have st := hide (Sg.put st.out (Firm2.and (Firm2.and (Firm2.and (Firm2.and (Firm2.and (Firm2.and Firm2.yes (Firm2.and (Firm2.qi _ _ _) (Firm2.and (Firm2.qi _ _ _) (Firm2.and (Firm2.ic _ _ _) (Firm2.ic _ _ _))))) (Firm2.ic _ _ _)) (Firm2.ic _ _ _)) (Firm2.qi _ _ _)) Firm2.yes) (Firm2.qi _ _ _)) 3 _ 0 _ _ (.bool s17) rfl rfl rfl); have st := hide (Sg.put st.out (Firm2.and (Firm2.and (Firm2.and (Firm2.and (Firm2.and (Firm2.and Firm2.yes (Firm2.and (Firm2.qi _ _ _) (Firm2.and (Firm2.qi _ _ _) (Firm2.and (Firm2.ic _ _ _) (Firm2.ic _ _ _))))) (Firm2.ic _ _ _)) (Firm2.ic _ _ _)) (Firm2.qi _ _ _)) Firm2.yes) (Firm2.qi _ _ _)) 3 _ 1 _ _ (.slice A17 n17 c17) rfl rfl rfl)))
      all_goals
        clear a0 a1 d0 d1 x0 x1 k0 k1 k2 k3 f0 f1 f2 f3
        go_wp2_with fail
        refine bodyPost_ret (qret22 (p := 4) (q := 5) rfl _ _ (w.heap.size + 1 + 1) (w.heap.size + 1 + 1 + 1) #[.bool s9, .slice A9 n9 c9] #[.bool s17, .slice A17 n17 c17] rfl rfl rfl rfl (st.out.2.2.2.1 2 _ _ rfl rfl).1 (st.out.2.2.2.1 3 _ _ rfl rfl).1) rfl ?_
        refine ⟨_, _, rfl, ?_, ?_, st.out.1⟩
        · rw [HZQ.out]; exact st.out.2.2.1.1.1.2.more (by omega)
        · unfold zr; rw [HZQ.out]; exact st.out.2.2.1.2
end Go.Proofs.YtgkaijhblgbnhaaDoor
