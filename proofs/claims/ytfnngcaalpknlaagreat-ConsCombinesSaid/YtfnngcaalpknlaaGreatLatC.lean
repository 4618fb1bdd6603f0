
/-
 A region that draws its order and makes variables among its calls: its stages, for any number of variables of any kind.
-/
import Derived.Test.YtfnngcaalpknlaaGreatBundleF
import Derived.Test.YtfnngcaalpknlaaGreatBundleE


namespace Go.Proofs.YtfnngcaalpknlaaGreat
open Go.RowKit Go.Proofs.YtfnngcaalpknlaaGreat.Num
set_option linter.unusedVariables false
set_option maxRecDepth 100000
theorem zi_self (z : Int) : zi (decide (z < 0)) z.natAbs = z := by
 unfold zi
 by_cases h : z < 0
 ·rw [decide_eq_true h]; simp only [if_true]; omega
 ·rw [decide_eq_false h]; simp only [Bool.false_eq_true, if_false]; omega
def noInt : Value → Bool
 | .int _ _ => false
 | _ => true
def Bn (W : World) (g : Nat) : Prop := ∃ cs T, W.heap[g]? = some (.cells cs T (0, 0)) ∧ ∀ (j : Nat) (v : Value), cs[j]? = some v → noInt v = true
theorem Rd.bset {k : IntKind} {w : World} {B n g : Nat} {A : Option Addr} {xs : List Nat} (h : Rd k w B A n xs) (hz : Bn w g) (j : Nat) (v : Value) : Rd k (w.setCell ⟨g, j, none⟩ v) B A n xs := by
 refine ⟨h.1, fun hn => ?_⟩
 obtain ⟨bb, off, e, hb, hc⟩ := h.2 hn
 refine ⟨bb, off, e, hb, fun i hi => ?_⟩
 have hne : bb ≠ g := by
  rintro rfl
  obtain ⟨cs, T, hh, hno⟩ := hz
  have h1 := hc 0 hn
  rw [Nat.add_zero, cell_of_row w bb off _ _ _ hh] at h1
  have h2 := hno _ _ h1
  simp [noInt] at h2
 rw [World.cell?_setCell_other _ _ _ _ (by intro h2; apply hne; injection h2 with h3; exact h3.symm)]
 exact hc i hi
theorem Ic.bset {w : World} {v : Value} {x L g : Nat} (h : Ic w v x L) (hz : Bn w g) (j : Nat) (u : Value) : Ic (w.setCell ⟨g, j, none⟩ u) v x L := by
 obtain ⟨A, c, e, h1, h2⟩ := h
 exact ⟨A, c, e, by rw [World.size_setCell]; exact h1.bset hz j u, h2⟩
def Firm2 (F : World → Prop) : Prop := (∀ W W', F W → Below W.heap.size W W' → F W') ∧ ∀ W g j v, F W → Bn W g → F (W.setCell ⟨g, j, none⟩ v)
theorem Firm2.yes : Firm2 (fun _ => True) := ⟨fun _ _ _ _ => trivial, fun _ _ _ _ _ _ => trivial⟩
theorem Firm2.and {F G : World → Prop} (hf : Firm2 F) (hg : Firm2 G) : Firm2 (fun W => F W ∧ G W) :=
 ⟨fun W W' h hb => ⟨hf.1 W W' h.1 hb, hg.1 W W' h.2 hb⟩, fun W g j v h hz => ⟨hf.2 W g j v h.1 hz, hg.2 W g j v h.2 hz⟩⟩
theorem Firm2.qi (v : Value) (z : Int) (L : Nat) : Firm2 (fun W => Qi W v z L) := ⟨fun _ _ h hb => h.step hb, fun _ _ j u ⟨x, e, h⟩ hn => ⟨x, e, h.bset hn j u⟩⟩
def Sg (n0 : Nat) (W0 W : World) (os : List Obj) (gs : List (Option Nat)) (F : World → Prop) : Prop :=
 Below n0 W0 W ∧ n0 ≤ W.heap.size ∧ F W ∧ (∀ (i g : Nat) (o : Obj), gs[i]? = some (some g) → os[i]? = some o → W.heap[g]? = some o ∧ n0 ≤ g) ∧ ∀ (i j g : Nat), gs[i]? = some (some g) → gs[j]? = some (some g) → i = j
theorem heap_lt {W : World} {g : Nat} {o : Obj} (h : W.heap[g]? = some o) : g < W.heap.size := (Array.getElem?_eq_some_iff.1 h).1
theorem Sg.call {n0 : Nat} {W0 W W' : World} {os : List Obj} {gs : List (Option Nat)} {F G : World → Prop} (h : Sg n0 W0 W os gs F) (hb : Below W.heap.size W W') (hf : Firm2 F) (hg : G W') : Sg n0 W0 W' os gs (fun W => F W ∧ G W) := by
 obtain ⟨h1, h2, h3, h4, h5⟩ := h
 exact ⟨h1.trans (hb.mono h2), Nat.le_trans h2 hb.size, ⟨hf.1 _ _ h3 hb, hg⟩, fun i g o hi ho => ⟨(hb.block g (heap_lt (h4 i g o hi ho).1)).trans (h4 i g o hi ho).1, (h4 i g o hi ho).2⟩, h5⟩
theorem Sg.bn {n0 : Nat} {W0 W : World} {os : List Obj} {gs : List (Option Nat)} {F : World → Prop} {i g : Nat} {cs : Array Value} {T : TypeId} (h : Sg n0 W0 W os gs F) (hi : gs[i]? = some (some g)) (ho : os[i]? = some (.cells cs T (0, 0))) (hn : cs.toList.all noInt = true) : Bn W g :=
 ⟨cs, T, (h.2.2.2.1 i g _ hi ho).1, fun j v hj => by
  have hm := Array.mem_of_getElem? hj
  exact List.all_eq_true.1 hn v (Array.mem_toList_iff.2 hm)⟩
theorem Sg.put {n0 : Nat} {W0 W : World} {os : List Obj} {gs : List (Option Nat)} {F : World → Prop} (h : Sg n0 W0 W os gs F) (hf : Firm2 F) (i g j : Nat) (cs : Array Value) (T : TypeId) (v : Value) (hi : gs[i]? = some (some g)) (ho : os[i]? = some (.cells cs T (0, 0))) (hn : cs.toList.all noInt = true) :
  Sg n0 W0 (W.setCell ⟨g, j, none⟩ v) (os.set i (.cells (cs.setIfInBounds j v) T (0, 0))) gs F := by
 have hbn := h.bn hi ho hn
 obtain ⟨h1, h2, h3, h4, h5⟩ := h
 obtain ⟨hh, hl⟩ := h4 i g _ hi ho
 refine ⟨h1.setCell hl _, by rw [World.size_setCell]; exact h2, hf.2 _ _ _ _ h3 hbn, fun k g' o hk hok => ?_, h5⟩
 rw [List.getElem?_set] at hok
 split at hok
 ·rename_i hik
  subst hik
  rw [hi] at hk
  have e : g = g' := by simpa using hk
  subst e
  split at hok
  ·injection hok with e
   subst e
   exact ⟨by simp [World.setCell, Array.getElem?_modify, hh], hl⟩
  ·cases hok
 ·rename_i hik
  obtain ⟨hh', hl'⟩ := h4 k g' o hk hok
  refine ⟨(Below.heap_setCell W _ v g' ?_).trans hh', hl'⟩
  rintro rfl
  exact hik (h5 i k _ hi hk)
theorem Sg.cells {n0 : Nat} {W0 W : World} {os : List Obj} {gs : List (Option Nat)} {F : World → Prop} (h : Sg n0 W0 W os gs F) (i g : Nat) (cs : Array Value) (T : TypeId) (hi : gs[i]? = some (some g)) (ho : os[i]? = some (.cells cs T (0, 0))) (j : Nat) :
  W.cell? ⟨g, j, none⟩ = cs[j]? ∧ W.frozen? ⟨g, j, none⟩ = false :=
 ⟨cell_of_row W g j _ _ _ (h.2.2.2.1 i g _ hi ho).1, frozen_of_row W g j _ _ (h.2.2.2.1 i g _ hi ho).1⟩
end Go.Proofs.YtfnngcaalpknlaaGreat
