/-
  A list of the call's own, sorted by the library. Proofs about worlds alone.
-/
import Derived.Test.YtieicmcbdhaipaaGreatEl
import Derived.Shelf.SlSortCmp.WholeK


namespace Go.Proofs.YtieicmcbdhaipaaGreat
open Go.RowKit Go.Sort
set_option linter.unusedVariables false

section
variable {α : Type} [Inhabited α] {enc : α → List Value} {k : Nat} {T : TypeId} {w : World} {B : Nat}
theorem flatK_list (hk : ∀ x, (enc x).length = k) (h0 : 0 < k) (d : Array α) : (flatK enc k d).toList = flat enc d.toList := by
  apply List.ext_getElem?
  intro t
  by_cases ht : t < d.size * k
  · have hdiv : t / k < d.size := Nat.div_lt_of_lt_mul (by rw [Nat.mul_comm]; exact ht)
    have hmod : t % k < k := Nat.mod_lt _ h0
    have e2 := flat_get hk d.toList (t / k) d[t / k]! (by rw [Array.getElem?_toList, Array.getElem?_eq_getElem hdiv, getElem!_pos d (t / k) hdiv]) (t % k) hmod
    rw [show t / k * k + t % k = t by rw [Nat.mul_comm]; exact Nat.div_add_mod t k] at e2
    rw [e2, Array.getElem?_toList, Array.getElem?_eq_getElem (by simpa using ht)]
    have e3 := get_flatK enc k d t ht
    rw [getElem!_pos (flatK enc k d) t (by simpa using ht)] at e3
    rw [e3, List.getElem?_eq_getElem (by rw [hk]; exact hmod), getElem!_pos (enc d[t / k]!) (t % k) (by rw [hk]; exact hmod)]
  · rw [List.getElem?_eq_none (by simp; omega), List.getElem?_eq_none (by rw [flat_len hk]; simp; omega)]
theorem Ow.holdsK (hk : ∀ x, (enc x).length = k) (h0 : 0 < k) {g n c : Nat} {d : List α} (h : Ow T enc k w B (.slice (some ⟨g, 0, none⟩) n c) d) : HoldsK enc k w g 0 d.toArray := by
  intro j hj
  have hj2 : j < d.length * k := by simpa using hj
  rcases h.form with ⟨e, _⟩ | ⟨g', cap, cur, e, hB, hlt, hh, h1, h2, h3, h4⟩
  · cases e
  · cases e
    have e1 : (flatK enc k d.toArray)[j]? = cur[j]? := by
      rw [← Array.getElem?_toList, flatK_list hk h0, ← h4, List.getElem?_take, if_pos (by simpa using hj2), Array.getElem?_toList]
    rw [Array.getElem?_eq_getElem hj] at e1
    refine ⟨?_, frozen_of_row w g _ cur T hh⟩
    rw [Nat.zero_add, cell_of_row w g j cur T (0, 0) hh, ← e1]
    show some _ = some (id _)
    rw [id, getElem!_pos (flatK enc k d.toArray) j hj]
theorem Ow.sorted (hk : ∀ x, (enc x).length = k) (h0 : 0 < k) {g c : Nat} {d : List α} (h : Ow T enc k w B (.slice (some ⟨g, 0, none⟩) d.length c) d) {d' : Array α} (hs : d'.size = d.length) (n : Nat) (os : Array Obj) :
    Ow T enc k (Go.Proofs.sortWorldK enc k w g 0 n d' os) B (.slice (some ⟨g, 0, none⟩) d'.toList.length c) d'.toList ∧ w.grownBy (Go.Proofs.sortWorldK enc k w g 0 n d' os) (some g) := by
  rcases h.form with ⟨e, _⟩ | ⟨g', cap, cur, e, hB, hlt, hh, h1, h2, h3, h4⟩
  · cases e
  · cases e
    have hm := Nat.mul_le_mul_right k h1
    have hheap : (Go.Proofs.sortWorldK enc k w g 0 n d' os).heap[g]? = some (.cells (putCells id 0 (flatK enc k d') cur) T (0, 0)) := by
      show ((w.heap.modify g (onCells (putCells id 0 (flatK enc k d')))) ++ os)[g]? = _
      rw [Array.getElem?_append_left (by simpa using hlt), Array.getElem?_modify, if_pos rfl, hh]
      rfl
    refine ⟨⟨by rw [flat_len hk], .inr ⟨g, c, _, rfl, hB, hheap, by rw [Array.length_toList, hs]; exact h1, h2, by simp [putCells, h3], ?_⟩⟩, ⟨rfl, rfl, rfl, ?_, fun i hi hne => ?_⟩⟩
    · apply List.ext_getElem?
      intro t
      rw [List.getElem?_take, Array.length_toList, hs]
      by_cases ht : t < d.length * k
      · rw [if_pos ht, Array.getElem?_toList, ← flatK_list hk h0, Array.getElem?_toList, putCells, Array.getElem?_mapIdx, Array.getElem?_eq_getElem (show t < cur.size by omega), Array.getElem?_eq_getElem (show t < (flatK enc k d').size by rw [size_flatK, hs]; exact ht)]
        simp only [Option.map_some, Nat.zero_le, true_and, Nat.zero_add, Nat.sub_zero, size_flatK, hs]
        rw [if_pos ht, id, getElem!_pos (flatK enc k d') t (by rw [size_flatK, hs]; exact ht)]
      · rw [if_neg ht, List.getElem?_eq_none (by rw [flat_len hk, Array.length_toList, hs]; omega)]
    · show w.heap.size ≤ ((w.heap.modify g (onCells (putCells id 0 (flatK enc k d')))) ++ os).size
      rw [Array.size_append, Array.size_modify]
      omega
    · show ((w.heap.modify g (onCells (putCells id 0 (flatK enc k d')))) ++ os)[i]? = _
      rw [Array.getElem?_append_left (by simpa using hi), Array.getElem?_modify, if_neg (fun e => hne (by rw [e]))]
end
end Go.Proofs.YtieicmcbdhaipaaGreat
