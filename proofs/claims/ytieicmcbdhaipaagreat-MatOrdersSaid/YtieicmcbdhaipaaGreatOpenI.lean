/-
  An argument that is a list of whole numbers of the machine, opened.
-/
import Derived.Test.YtieicmcbdhaipaaGreatOpenV
import Derived.Test.YtieicmcbdhaipaaGreatBundleL
import Derived.ChangeSlices


namespace Go.Proofs.YtieicmcbdhaipaaGreat
open Go.ChangeShapes Go.WideShapes Go.ChangeAt Go.RowKit Go.Joins Go.Deep Go.Proofs.YtieicmcbdhaipaaGreat.Num
set_option linter.unusedVariables false
set_option maxRecDepth 100000

theorem open_nums {H : Type} {enc : TypeId × Value → H} {W : World} {r : Reach} {b0 : Nat} {v : Value} {d : DataW H} {ps : List MemPlace}
    (hv : Value.okWide Tryz.prog W r b0 30 v) (h : DataW.Trod enc Tryz.prog W 0 (fun _ => true) true 30 v d ps) : ∃ xs : List Int, Lr ei 1 W v xs := by
  obtain ⟨A, n, c, rfl⟩ := okWide_slice Tryz.underlying30 hv
  obtain ⟨fuel, hf⟩ := h
  have hf' : DataW.trod enc Tryz.prog W 0 (fun _ => true) true fuel 30 [.slice A n c] = some (d, ps) := by simpa [Value.cells] using hf
  rcases open_ints Tryz.underlying30 Tryz.underlying3 (by kernel_rfl) hf' with ⟨e, _⟩ | ⟨ad, len, cap, zs, e, hb, hl, hm, hz, hx, hcell, hwf⟩
  · simp at e
    obtain ⟨rfl, rfl, rfl⟩ := e
    exact ⟨[], Lr.nil _ _ _⟩
  · simp at e
    obtain ⟨rfl, rfl, rfl⟩ := e
    have hzn : zs.length = c := by simpa using hz
    have hlen : (zs.take n).length = n := by rw [List.length_take]; omega
    refine ⟨zs.take n, some ad, c, by rw [hlen], by rw [hlen]; exact hl, hm, fun hn => ?_⟩
    rw [hlen] at hn
    have hc0 := hcell 0 (by omega)
    obtain ⟨b, off, spot⟩ := ad
    have hs : spot = none := by simpa [Addr.add] using World.cell?_spot hc0
    subst hs
    refine ⟨b, off, rfl, ?_, fun j x hj i u hi => ?_⟩
    · unfold World.cell? at hc0
      split at hc0
      · rename_i hb2
        exact (Array.getElem?_eq_some_iff.1 hb2).1
      · cases hc0
    · have hjn : j < n := by have := (List.getElem?_eq_some_iff.1 hj).1; omega
      have hi0 : i = 0 := by have := (List.getElem?_eq_some_iff.1 hi).1; rw [ei_len] at this; omega
      subst hi0
      have hu : Value.int .i64 x = u := by simpa [ei] using hi
      have hc1 := hcell j (by omega)
      have hg : zs.getD j 0 = x := by
        rw [List.getElem?_take_of_lt hjn] at hj
        rw [List.getD_eq_getElem?_getD, hj]
        rfl
      rw [hg, hu] at hc1
      rw [← hc1, Nat.mul_one, Nat.add_zero]
      congr 1
      unfold Addr.add
      by_cases h0 : j = 0
      · simp [h0]
      · simp [h0]
end Go.Proofs.YtieicmcbdhaipaaGreat
