/-
  The reference of whole numbers: DivFloor.
-/
import Derived.Test.YtajjpepjbflojaaGreatDoorLatC
import Derived.Test.YtajjpepjbflojaaGreatDoorBundleE


namespace Go.Proofs.YtajjpepjbflojaaGreatDoor
open Go.RowKit Go.Proofs.YtajjpepjbflojaaGreatDoor.Num
set_option linter.unusedVariables false
set_option linter.unusedSimpArgs false
set_option maxRecDepth 100000

theorem Firm2.ic (v : Value) (x L : Nat) : Firm2 (fun W => Ic W v x L) := ⟨fun _ _ h hb => h.step hb, fun _ _ j u h hn => h.bset hn j u⟩
theorem Sg.push {n0 : Nat} {W0 W : World} {os : List Obj} {gs : List (Option Nat)} {F : World → Prop} (h : Sg n0 W0 W os gs F) (hf : Firm2 F) (o : Obj) (hl : gs.length = os.length) : Sg n0 W0 (W.alloc o) (os ++ [o]) (gs ++ [some W.heap.size]) F := by
  obtain ⟨h1, h2, h3, h4, h5⟩ := h
  have hb : Below W.heap.size W (W.alloc o) := (Below.refl _ _).alloc (Nat.le_refl _) _
  have hlt : ∀ (j g : Nat), gs[j]? = some (some g) → g < W.heap.size := fun j g hj => by
    have hj2 : j < gs.length := (List.getElem?_eq_some_iff.1 hj).1
    exact heap_lt (h4 j g (os[j]'(by omega)) hj (by simp)).1
  have hcase : ∀ (j g : Nat), (gs ++ [some W.heap.size])[j]? = some (some g) → gs[j]? = some (some g) ∨ (j = gs.length ∧ g = W.heap.size) := fun j g hj => by
    rcases Nat.lt_trichotomy j gs.length with h | h | h
    · rw [List.getElem?_append_left h] at hj; exact .inl hj
    · subst h; rw [List.getElem?_append_right (Nat.le_refl _)] at hj; simp at hj; exact .inr ⟨rfl, hj.symm⟩
    · rw [List.getElem?_append_right (by omega)] at hj
      have hz : j - gs.length ≠ 0 := by omega
      obtain ⟨k, hk⟩ := Nat.exists_eq_succ_of_ne_zero hz
      rw [hk] at hj; simp at hj
  refine ⟨h1.alloc h2 _, Nat.le_trans h2 hb.size, hf.1 _ _ h3 hb, fun j g o' hj ho' => ?_, fun j k g hj hk => ?_⟩
  · rcases hcase j g hj with hj | ⟨rfl, rfl⟩
    · have hj2 : j < gs.length := (List.getElem?_eq_some_iff.1 hj).1
      rw [List.getElem?_append_left (by omega)] at ho'
      exact ⟨(hb.block g (hlt j g hj)).trans (h4 j g o' hj ho').1, (h4 j g o' hj ho').2⟩
    · rw [List.getElem?_append_right (by omega), hl, Nat.sub_self] at ho'
      have e : o = o' := by simpa using ho'
      subst e
      exact ⟨heap_alloc_new _ _, h2⟩
  · rcases hcase j g hj with hj | ⟨rfl, rfl⟩
    · rcases hcase k g hk with hk | ⟨rfl, rfl⟩
      · exact h5 j k g hj hk
      · have := hlt j _ hj; omega
    · rcases hcase k _ hk with hk | ⟨rfl, -⟩
      · have := hlt k _ hk; omega
      · rfl
theorem qret22 {fn : Func} {p q : Tmp} (h : fn.results = #[.cell p 34, .cell q 34]) (tmps : Array Value) (w : World) (g1 g2 : Nat) (cs1 cs2 : Array Value) (hs1 : cs1.size = 2) (hs2 : cs2.size = 2)
    (hp : tmps.getD p undef = .pointer (some ⟨g1, 0, none⟩)) (hq : tmps.getD q undef = .pointer (some ⟨g2, 0, none⟩)) (h1 : w.heap[g1]? = some (.cells cs1 34 (0, 0))) (h2 : w.heap[g2]? = some (.cells cs2 34 (0, 0))) :
    (results fn tmps).run Tryz.prog w = .ok (.tuple #[.agg cs1, .agg cs2]) w := by
  have hp' : tmps[p]?.getD undef = .pointer (some ⟨g1, 0, none⟩) := by simpa using hp
  have hq' : tmps[q]?.getD undef = .pointer (some ⟨g2, 0, none⟩) := by simpa using hq
  simp only [results, h]
  simp [Sem.run_bind, Result.andThen, hp', hq', asAddr, run_loadVar_row (P := Tryz.prog) w g1 34 34 cs1 (0, 0) _ h1 Tryz.underlying34 rfl (by rw [hs1]; kernel_rfl), run_loadVar_row (P := Tryz.prog) w g2 34 34 cs2 (0, 0) _ h2 Tryz.underlying34 rfl (by rw [hs2]; kernel_rfl)]
/-- What such a call leaves. -/
def QdRet (w : World) (a b : Int) (K M : Nat) (e : Ending) (w' : World) : Prop := ∃ q r, e = .returned (.tuple #[q, r]) ∧ Qi w' q (zq a b) K ∧ Qi w' r (zr a b) M ∧ Below w.heap.size w w'
theorem qi_mk {w : World} {sg : Bool} {u : Value} {z : Int} {x L : Nat} (h : Ic w u x L) (hs : decide (z < 0) = sg) (hx : z.natAbs = x) : Qi w (zv sg u) z L := ⟨u, by rw [hs], by rw [hx]; exact h⟩

end Go.Proofs.YtajjpepjbflojaaGreatDoor
