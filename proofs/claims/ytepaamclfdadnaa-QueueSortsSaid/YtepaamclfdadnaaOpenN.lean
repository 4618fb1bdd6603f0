
/-
 An argument that is a list of nodes, opened.
-/
import Derived.Test.YtepaamclfdadnaaBundleP
import Derived.Test.YtepaamclfdadnaaQu1


namespace Go.Proofs.Ytepaamclfdadnaa
open Go.ChangeShapes Go.WideShapes Go.ChangeAt Go.RowKit Go.Joins Go.Deep Go.Proofs.Ytepaamclfdadnaa.Num
set_option linter.unusedVariables false
set_option linter.unusedSimpArgs false
set_option maxRecDepth 100000
def Nlv (W : World) (v : Value) (l : List Nx) : Prop := Lr en 5 W v l ∧ l.length ≤ 1954687338211 ∧ ∀ x ∈ l, Ra W (rx x.x) x.x.r 17592186043904
theorem Nlv.step {W W' : World} {v : Value} {l : List Nx} (h : Nlv W v l) (hb : Below W.heap.size W W') : Nlv W' v l := ⟨h.1.step hb, h.2.1, fun x hx => (h.2.2 x hx).step hb⟩
def Nlw (W : World) (v : Value) (l : List Nx) : Prop := Nlv W v l ∧ ∀ x ∈ l, (Lit.int .i64 x.id).wf = true
theorem open_rcN {H : Type} {enc : TypeId × Value → H} {W : World} {fuel : Nat} {cs : List Value} {y : DataW H × List MemPlace}
  (hf : DataW.trod enc Try.prog W 0 (fun _ => true) true fuel 33 cs = some y) (hw : ∀ q ∈ y.1.weights Try.prog 33, q ≤ reachBytes) : ∃ x : Rx, cs = er x ∧ Ra W (rx x) x.r 17592186043904 := by
 obtain ⟨x, dw, du, e4, e5, l1, l2, hr⟩ := open_rcells hf
 rw [e5] at hw
 have q1 := dlen_le l1 (fun q hq => hw q (by
  simp only [DataW.weights, DataW.weightsEach, Try.underlying33, Try.underlying31, List.map_cons, List.map_nil, List.mem_append]
  simp [hq]))
 have q2 := dlen_le l2 (fun q hq => hw q (by
  simp only [DataW.weights, DataW.weightsEach, Try.underlying33, Try.underlying31, List.map_cons, List.map_nil, List.mem_append]
  simp [hq]))
 exact ⟨x, e4, hr _ q1 q2⟩
theorem open_ncells {H : Type} {enc : TypeId × Value → H} {W : World} {fuel : Nat} {cs : List Value} {y : DataW H × List MemPlace}
  (hf : DataW.trod enc Try.prog W 0 (fun _ => true) true fuel 35 cs = some y) (hwd : ∀ q ∈ y.1.weights Try.prog 35, q ≤ reachBytes) : ∃ n : Nx, cs = en n ∧ Ra W (rx n.x) n.x.r 17592186043904 ∧ (Lit.int .i64 n.id).wf = true := by
 obtain ⟨xs, k, _, hx, hlen, hl, hg⟩ := DataW.trod_struct Try.underlying35 hf
 rw [show Try.prog.cellsOf 35 = 5 by kernel_rfl] at hlen
 obtain ⟨c0, c1, c2, c3, c4, rfl⟩ : ∃ c0 c1 c2 c3 c4, cs = [c0, c1, c2, c3, c4] := by
  match cs, hlen with
  | [c0, c1, c2, c3, c4], _ => exact ⟨_, _, _, _, _, rfl⟩
 obtain ⟨y0, y1, y2, rfl⟩ : ∃ y0 y1 y2, xs = [y0, y1, y2] := by
  match xs, hl with
  | [y0, y1, y2], _ => exact ⟨_, _, _, rfl⟩
 have es : Try.prog.cellsOf 3 = 1 := by kernel_rfl
 have e3 : Try.prog.cellsOf 33 = 3 := by kernel_rfl
 have h0 : DataW.trod enc Try.prog W 0 (fun _ => true) true k 3 [c0] = some y0 := by simpa [es] using hg 0 _ rfl
 have h1 : DataW.trod enc Try.prog W 0 (fun _ => true) true k 3 [c1] = some y1 := by simpa [es] using hg 1 _ rfl
 have h2 : DataW.trod enc Try.prog W 0 (fun _ => true) true k 33 [c2, c3, c4] = some y2 := by simpa [e3] using hg 2 _ rfl
 have hy : y.1 = .agg [y0.1, y1.1, y2.1] := by rw [hx]; rfl
 have w2 : ∀ q ∈ y2.1.weights Try.prog 33, q ≤ reachBytes := fun q hq => hwd q (by
  rw [hy]
  simp only [DataW.weights, DataW.weightsEach, Try.underlying35, List.map_cons, List.map_nil, List.mem_append]
  simp [hq])
 obtain ⟨z0, hz0, -, wz0⟩ := DataW.trod_int Try.underlying3 h0
 obtain ⟨z1, hz1, -, -⟩ := DataW.trod_int Try.underlying3 h1
 obtain ⟨x, ex, rx1⟩ := open_rcN h2 w2
 simp [er] at ex hz0 hz1
 obtain ⟨rfl, rfl, rfl⟩ := ex
 subst hz0 hz1
 exact ⟨⟨z0, z1, x⟩, rfl, rx1, wz0⟩
theorem open_nodesW {H : Type} {enc : TypeId × Value → H} {W : World} {r : Reach} {b0 : Nat} {v : Value} {d : DataW H} {ps : List MemPlace}
  (hv : Value.okWide Try.prog W r b0 22 v) (h : DataW.Trod enc Try.prog W 0 (fun _ => true) true 22 v d ps)
  {ts : List TypeId} {ds : List (DataW H)} (hS : (DataW.weightsEach Try.prog ts ds).all (· ≤ reachBytes) = true) {j : Nat} (ht : ts[j]? = some 22) (hd : ds[j]? = some d) : ∃ l : List Nx, Nlw W v l := by
 obtain ⟨A, n, c, rfl⟩ := okWide_slice Try.underlying22 hv
 obtain ⟨fuel, hf⟩ := h
 have hf' : DataW.trod enc Try.prog W 0 (fun _ => true) true fuel 22 [.slice A n c] = some (d, ps) := by simpa [Value.cells] using hf
 rcases open_slice Try.underlying22 hf' with ⟨e, _⟩ | ⟨ad, len, cap, m, k, D, Pl, e, hb, hl, hm, hmm, hx, hel⟩
 ·simp at e
  obtain ⟨rfl, rfl, rfl⟩ := e
  exact ⟨[], ⟨Lr.nil _ _ _, by simp, fun x hx => by cases hx⟩, fun x hx => by cases hx⟩
 ·simp at e
  obtain ⟨rfl, rfl, rfl⟩ := e
  have hlm : n ≤ m := by rw [hmm]; simp; omega
  have e4 : Try.prog.cellsOf 35 = 5 := by kernel_rfl
  rw [e4] at hel
  have hdx : d = .slice ((List.range n).map D) ((List.range (m - n)).map fun j => D (n + j)) := congrArg Prod.fst hx
  have hwl : ∀ q ∈ d.weights Try.prog 22, q ≤ reachBytes := fun q hq => by
   have := List.all_eq_true.1 hS q (DataW.weights_mem_each ht hd q hq)
   simpa using this
  have hn9 : n ≤ 1954687338211 := by
   have h1 := hwl ((n + (m - n)) * Try.prog.bytesOf 35) (by
    rw [hdx]
    simp only [DataW.weights, Try.underlying22, List.mem_cons, List.mem_append, List.length_map, List.length_range]
    exact .inl (by trivial))
   have h2 : Try.prog.bytesOf 35 = 72 := by kernel_rfl
   have h3 : reachBytes = 140737488351232 := by decide
   rw [h2, h3] at h1
   omega
  have hw : ∀ i, i < n → ∀ q ∈ (D i).weights Try.prog 35, q ≤ reachBytes := fun i hi q hq => hwl q (by
    rw [hdx]
    simp only [DataW.weights, Try.underlying22, List.mem_cons, List.mem_append]
    exact .inr (.inl (weightsAll_mem (List.mem_map.2 ⟨i, List.mem_range.2 hi, rfl⟩) hq)))
  haveI : Inhabited Nx := ⟨⟨0, 0, ⟨false, (none, 0, 0), (none, 0, 0), 0⟩⟩⟩
  obtain ⟨X, hX⟩ := choose_lt (α := Nx) (p := fun i x => (∀ q u, (en x)[q]? = some u → W.cell? (ad.add (i * 5 + q)) = some u) ∧ Ra W (rx x.x) x.x.r 17592186043904 ∧ (Lit.int .i64 x.id).wf = true) (n := n) (fun i hi => by
   obtain ⟨cs', h1, h2⟩ := hel i (by omega)
   obtain ⟨x, rfl, hkv⟩ := open_ncells h2 (hw i hi)
   obtain ⟨_, _, hc⟩ := World.cells?_some h1
   refine ⟨x, fun q u hq => ?_, hkv⟩
   have hq4 : q < 5 := by have := (List.getElem?_eq_some_iff.1 hq).1; rwa [en_len] at this
   have h3 := hc q hq4
   rw [hq] at h3
   rw [← h3]
   congr 1
   obtain ⟨b, off, sp⟩ := ad
   unfold Addr.add
   by_cases hi0 : i * 5 = 0
   ·by_cases hq0 : q = 0
    ·simp [hi0, hq0]
    ·simp [hi0, hq0]
   ·by_cases hq0 : q = 0
    ·simp [hi0, hq0]
    ·have : i * 5 + q ≠ 0 := by omega
     simp [hi0, hq0]
     try omega)
  refine ⟨(List.range n).map X, ⟨⟨some ad, c, by simp, by simpa using hl, hm, fun hn => ?_⟩, by simpa using hn9, fun x hx => ?_⟩, fun x hx => ?_⟩
  ·simp at hn
   obtain ⟨h1, _⟩ := hX 0 hn
   obtain ⟨u0, hu0⟩ : ∃ u0, (en (X 0))[0]? = some u0 := ⟨_, rfl⟩
   have h2 := h1 0 _ hu0
   rw [show 0 * 5 + 0 = 0 by simp] at h2
   obtain ⟨b, off, spot⟩ := ad
   have hs : spot = none := by simpa [Addr.add] using World.cell?_spot h2
   subst hs
   refine ⟨b, off, rfl, ?_, fun i x hi q u hq => ?_⟩
   ·unfold World.cell? at h2
    split at h2
    ·rename_i hb2
     simpa [Addr.add] using (Array.getElem?_eq_some_iff.1 hb2).1
    ·cases h2
   ·have hin : i < n := by have := (List.getElem?_eq_some_iff.1 hi).1; simpa using this
    have hxe : x = X i := by
     rw [List.getElem?_map, List.getElem?_range hin] at hi
     simpa using hi.symm
    subst hxe
    have h5 := (hX i hin).1 q u hq
    rw [add_addr] at h5
    rwa [Nat.add_assoc]
  ·obtain ⟨i, hi, rfl⟩ := List.mem_map.1 hx
   exact (hX i (List.mem_range.1 hi)).2.1
  ·obtain ⟨i, hi, rfl⟩ := List.mem_map.1 hx
   exact (hX i (List.mem_range.1 hi)).2.2
end Go.Proofs.Ytepaamclfdadnaa
