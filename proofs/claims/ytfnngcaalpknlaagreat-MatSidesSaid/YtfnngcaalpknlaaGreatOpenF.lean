
/-
 An argument that is a list of fractions, opened.
-/
import Derived.Test.YtfnngcaalpknlaaGreatKxMatSides
import Derived.Test.YtfnngcaalpknlaaGreatBundleP

namespace Go.Proofs.YtfnngcaalpknlaaGreat
open Go.ChangeShapes Go.WideShapes Go.ChangeAt Go.RowKit Go.Joins Go.Deep Go.Proofs.YtfnngcaalpknlaaGreat.Num
set_option linter.unusedVariables false
set_option maxRecDepth 100000
theorem open_rats {H : Type} {enc : TypeId × Value → H} {W : World} {r : Reach} {b0 : Nat} {v : Value} {d : DataW H} {ps : List MemPlace}
  (hv : Value.okWide Tryz.prog W r b0 23 v) (h : DataW.Trod enc Tryz.prog W 0 (fun _ => true) true 23 v d ps)
  {ts : List TypeId} {ds : List (DataW H)} (hS : (DataW.weightsEach Tryz.prog ts ds).all (· ≤ reachBytes) = true) {j : Nat} (ht : ts[j]? = some 23) (hd : ds[j]? = some d) : ∃ xs : List Rx, Fv W v xs 17592186043904 := by
 obtain ⟨A, n, c, rfl⟩ := okWide_slice Tryz.underlying23 hv
 obtain ⟨fuel, hf⟩ := h
 have hf' : DataW.trod enc Tryz.prog W 0 (fun _ => true) true fuel 23 [.slice A n c] = some (d, ps) := by simpa [Value.cells] using hf
 rcases open_slice Tryz.underlying23 hf' with ⟨e, _⟩ | ⟨ad, len, cap, m, k, D, Pl, e, hb, hl, hm, hmm, hx, hel⟩
 ·simp at e
  obtain ⟨rfl, rfl, rfl⟩ := e
  exact ⟨[], Lr.nil _ _ _, fun x hx => by cases hx⟩
 ·simp at e
  obtain ⟨rfl, rfl, rfl⟩ := e
  have hlm : n ≤ m := by rw [hmm]; simp; omega
  have e4 : Tryz.prog.cellsOf 42 = 3 := by kernel_rfl
  rw [e4] at hel
  have hdx : d = .slice ((List.range n).map D) ((List.range (m - n)).map fun j => D (n + j)) := congrArg Prod.fst hx
  have hw : ∀ i, i < n → ∀ q ∈ (D i).weights Tryz.prog 42, q ≤ reachBytes := fun i hi q hq => by
   have := List.all_eq_true.1 hS q (DataW.weights_mem_each ht hd q (by
    rw [hdx]
    simp only [DataW.weights, Tryz.underlying23, List.mem_cons, List.mem_append]
    exact .inr (.inl (weightsAll_mem (List.mem_map.2 ⟨i, List.mem_range.2 hi, rfl⟩) hq))))
   simpa using this
  obtain ⟨X, hX⟩ := choose_lt (α := Rx) (p := fun i x => (∀ q u, (er x)[q]? = some u → W.cell? (ad.add (i * 3 + q)) = some u) ∧ Ra W (rx x) x.r 17592186043904) (n := n) (fun i hi => by
   obtain ⟨cs', h1, h2⟩ := hel i (by omega)
   obtain ⟨x, dw, du, rfl, hy, l1, l2, hr⟩ := open_rcells h2
   obtain ⟨_, _, hc⟩ := World.cells?_some h1
   have hy' : D i = .agg [.agg [.lit (.bool x.s), dw], du] := hy
   have w1 := dlen_le l1 (fun q hq => hw i hi q (by
    rw [hy']
    simp only [DataW.weights, DataW.weightsEach, Tryz.underlying42, Tryz.underlying40, List.map_cons, List.map_nil, List.mem_append]
    simp [hq]))
   have w2 := dlen_le l2 (fun q hq => hw i hi q (by
    rw [hy']
    simp only [DataW.weights, DataW.weightsEach, Tryz.underlying42, Tryz.underlying40, List.map_cons, List.map_nil, List.mem_append]
    simp [hq]))
   refine ⟨x, fun q u hq => ?_, hr _ w1 w2⟩
   have hq4 : q < 3 := by have := (List.getElem?_eq_some_iff.1 hq).1; rwa [er_len] at this
   have h3 := hc q hq4
   rw [hq] at h3
   rw [← h3]
   congr 1
   obtain ⟨b, off, sp⟩ := ad
   unfold Addr.add
   by_cases hi0 : i * 3 = 0
   ·by_cases hq0 : q = 0
    ·simp [hi0, hq0]
    ·simp [hi0, hq0]
   ·by_cases hq0 : q = 0
    ·simp [hi0, hq0]
    ·have : i * 3 + q ≠ 0 := by omega
     simp [hi0, hq0]
     try omega)
  refine ⟨(List.range n).map X, ⟨some ad, c, by simp, by simpa using hl, hm, fun hn => ?_⟩, fun x hx => ?_⟩
  ·simp at hn
   obtain ⟨h1, _⟩ := hX 0 hn
   have h2 := h1 0 _ rfl
   obtain ⟨b, off, spot⟩ := ad
   have hs : spot = none := by simpa [Addr.add] using World.cell?_spot h2
   subst hs
   refine ⟨b, off, rfl, ?_, fun i x hi q u hq => ?_⟩
   ·unfold World.cell? at h2
    split at h2
    ·rename_i hb2
     exact (Array.getElem?_eq_some_iff.1 hb2).1
    ·cases h2
   ·have hin : i < n := by have := (List.getElem?_eq_some_iff.1 hi).1; simpa using this
    have hxe : x = X i := by
     rw [List.getElem?_map, List.getElem?_range hin] at hi
     simpa using hi.symm
    subst hxe
    have h5 := (hX i hin).1 q u hq
    rw [add_addr] at h5
    rwa [Nat.add_assoc]
  ·obtain ⟨i, hi, rfl⟩ := List.mem_map.1 hx
   exact (hX i (List.mem_range.1 hi)).2
end Go.Proofs.YtfnngcaalpknlaaGreat
