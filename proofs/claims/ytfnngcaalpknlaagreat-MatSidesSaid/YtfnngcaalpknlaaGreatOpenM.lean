
/-
 An argument that is a list of rows, opened.
-/
import Derived.Test.YtfnngcaalpknlaaGreatKxMatSides
import Derived.Test.YtfnngcaalpknlaaGreatBundleP
import Derived.Test.YtfnngcaalpknlaaGreatBundleR


namespace Go.Proofs.YtfnngcaalpknlaaGreat
open Go.ChangeShapes Go.WideShapes Go.ChangeAt Go.RowKit Go.Joins Go.Deep Go.Proofs.YtfnngcaalpknlaaGreat.Num
set_option linter.unusedVariables false
set_option maxRecDepth 100000

theorem open_rows {H : Type} {enc : TypeId × Value → H} {W : World} {r : Reach} {b0 : Nat} {v : Value} {d : DataW H} {ps : List MemPlace}
  (hv : Value.okWide Tryz.prog W r b0 22 v) (h : DataW.Trod enc Tryz.prog W 0 (fun _ => true) true 22 v d ps)
  {ts : List TypeId} {ds : List (DataW H)} (hS : (DataW.weightsEach Tryz.prog ts ds).all (· ≤ reachBytes) = true) {j : Nat} (ht : ts[j]? = some 22) (hd : ds[j]? = some d) : ∃ m : List Vx, Mv W v m 17592186043904 := by
 obtain ⟨A, n, c, rfl⟩ := okWide_slice Tryz.underlying22 hv
 obtain ⟨fuel, hf⟩ := h
 have hf' : DataW.trod enc Tryz.prog W 0 (fun _ => true) true fuel 22 [.slice A n c] = some (d, ps) := by simpa [Value.cells] using hf
 rcases open_slice1 Tryz.underlying22 (by kernel_rfl) hf' with ⟨e, _⟩ | ⟨ad, len, cap, m, k, V, D, Pl, e, hb, hl, hm, hmm, hx, hel⟩
 ·simp at e
  obtain ⟨rfl, rfl, rfl⟩ := e
  exact ⟨[], Lr.nil _ _ _, fun x hx => by cases hx⟩
 ·simp at e
  obtain ⟨rfl, rfl, rfl⟩ := e
  have hlm : n ≤ m := by rw [hmm]; simp; omega
  have hdx : d = .slice ((List.range n).map D) ((List.range (m - n)).map fun j => D (n + j)) := congrArg Prod.fst hx
  have hw : ∀ i, i < n → ∀ q ∈ (D i).weights Tryz.prog 28, q ≤ reachBytes := fun i hi q hq => by
   have := List.all_eq_true.1 hS q (DataW.weights_mem_each ht hd q (by
    rw [hdx]
    simp only [DataW.weights, Tryz.underlying22, List.mem_cons, List.mem_append]
    exact .inr (.inl (weightsAll_mem (List.mem_map.2 ⟨i, List.mem_range.2 hi, rfl⟩) hq))))
   simpa using this
  obtain ⟨X, hX⟩ := choose_lt (α := Vx) (p := fun i x => W.cell? (ad.add i) = some (sv x.a) ∧ Tv W (sv x.a) x.d 17592186043904) (n := n) (fun i hi => by
   obtain ⟨h1, h2⟩ := hel i (by omega)
   obtain ⟨A', n', c', hc⟩ := slice_form Tryz.underlying28 h2
   have hc : V i = .slice A' n' c' := by simpa using hc
   rw [hc] at h1 h2
   obtain ⟨xs, hxs⟩ := open_tcs (d := D i) (ps := Pl i) h2 (hw i hi)
   exact ⟨⟨(A', n', c'), xs⟩, h1, hxs⟩)
  refine ⟨(List.range n).map X, ⟨some ad, c, by simp, by simpa using hl, hm, fun hn => ?_⟩, fun x hx => ?_⟩
  ·simp at hn
   have h2 := (hX 0 hn).1
   obtain ⟨b, off, spot⟩ := ad
   have hs : spot = none := by simpa [Addr.add] using World.cell?_spot h2
   subst hs
   refine ⟨b, off, rfl, ?_, fun i x hi q u hq => ?_⟩
   ·unfold World.cell? at h2
    split at h2
    ·rename_i hb2
     exact (Array.getElem?_eq_some_iff.1 hb2).1
    ·cases h2
   ·have hin : i < n := by have := (List.getElem?_eq_some_iff.1 hi).1; simpa using this
    have hxe : x = X i := by
     rw [List.getElem?_map, List.getElem?_range hin] at hi
     simpa using hi.symm
    subst hxe
    have hq0 : q = 0 := by have := (List.getElem?_eq_some_iff.1 hq).1; rw [em_len] at this; omega
    subst hq0
    have hu : sv (X i).a = u := by simpa [em] using hq
    have h5 := (hX i hin).1
    rw [add_addr] at h5
    rw [← hu, Nat.mul_one, Nat.add_zero]
    exact h5
  ·obtain ⟨i, hi, rfl⟩ := List.mem_map.1 hx
   exact (hX i (List.mem_range.1 hi)).2
end Go.Proofs.YtfnngcaalpknlaaGreat
