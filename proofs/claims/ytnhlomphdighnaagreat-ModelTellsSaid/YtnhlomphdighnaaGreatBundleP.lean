/-
  Shared texts, one behind the other: Open, OpenZ, OpenR, OpenV, OpenK, OpenP.
-/
import Derived.Test.YtnhlomphdighnaaGreatFrameK
import Derived.Test.YtnhlomphdighnaaGreatBundleA
import Derived.ChangeSlices
import Derived.SizedLaws
import Derived.Test.YtnhlomphdighnaaGreatBundleD
import Derived.ChangeSame
import Derived.Test.YtnhlomphdighnaaGreatBundleF
import Derived.Test.YtnhlomphdighnaaGreatTv
import Derived.Deep.Slices
import Derived.Test.YtnhlomphdighnaaGreatBundleM
import Derived.Deep.Strs
import Derived.Deep.Grids
import Derived.Test.YtnhlomphdighnaaGreatBundleT

namespace Go.Proofs.YtnhlomphdighnaaGreat
open Go.ChangeShapes Go.WideShapes Go.ChangeAt Go.RowKit Go.Proofs.YtnhlomphdighnaaGreat.Num
set_option linter.unusedVariables false
theorem getD_toNat (zs : List Int) (i : Nat) : ((zs.map Int.toNat).getD i 0) = (zs.getD i 0).toNat := by
 simp only [List.getD_eq_getElem?_getD, List.getElem?_map]
 cases zs[i]? <;> simp
def DLen {H : Type} (d : DataW H) (n : Nat) : Prop := n = 0 ∨ ∃ elems spare, d = .slice elems spare ∧ elems.length = n
theorem open_words {H : Type} {enc : TypeId × Value → H} {W : World} {t : TypeId} {A : Option Addr} {n c : Nat} {d : DataW H} {ps : List MemPlace}
  (ht : Tryz.prog.underlying t = some (.slice 111)) (h : DataW.Trod enc Tryz.prog W 0 (fun _ => true) true t (.slice A n c) d ps) :
  ∃ xs, Rd .u64 W W.heap.size A n xs ∧ Dg Q xs ∧ n ≤ c ∧ c ≤ maxLen ∧ DLen d n := by
 obtain ⟨fuel, hf⟩ := h
 rcases open_ints ht Tryz.underlying111 (by kernel_rfl) hf with ⟨hcs, hx⟩ | ⟨x, l, c', zs, hcs, _, hl, hm, hz, hx, hcell, hwz⟩
 ·simp [Value.cells] at hcs
  obtain ⟨rfl, rfl, rfl⟩ := hcs
  exact ⟨[], Rd.nil, Dg.nil, Nat.le_refl _, Nat.zero_le _, .inl rfl⟩
 ·simp [Value.cells] at hcs
  obtain ⟨rfl, rfl, rfl⟩ := hcs
  have hzn : zs.length = c := by simpa using hz
  have hlen : ((zs.take n).map Int.toNat).length = n := by simp; omega
  have hw : ∀ z ∈ zs, 0 ≤ z ∧ z < 18446744073709551616 := fun z hz' => by
   have := hwz z hz'
   simp [Lit.wf, IntKind.min, IntKind.max, IntKind.signed, IntKind.bits] at this
   omega
  refine ⟨(zs.take n).map Int.toNat, ⟨hlen, fun hn => ?_⟩, ?_, hl, hm, ?_⟩
  ·have hc0 := hcell 0 (by omega)
   obtain ⟨b, off, spot⟩ := x
   have hs : spot = none := by simpa [Addr.add] using World.cell?_spot hc0
   subst hs
   have hb : b < W.heap.size := by
    unfold World.cell? at hc0
    split at hc0
    ·rename_i hb
     exact (Array.getElem?_eq_some_iff.1 hb).1
    ·cases hc0
   refine ⟨b, off, rfl, hb, fun j hj => ?_⟩
   have hc1 := hcell j (by omega)
   have hg : zs.getD j 0 ∈ zs := by
    rw [List.getD_eq_getElem?_getD, List.getElem?_eq_getElem (by omega)]
    simp
   have hnn := hw _ hg
   rw [getD_toNat]
   have ht' : (zs.take n).getD j 0 = zs.getD j 0 := by
    simp only [List.getD_eq_getElem?_getD]
    rw [List.getElem?_take_of_lt hj]
   rw [ht', Int.toNat_of_nonneg hnn.1]
   have ea : (⟨b, off, none⟩ : Addr).add j = ⟨b, off + j, none⟩ := by
    unfold Addr.add
    split
    ·rename_i h0
     subst h0
     rfl
    ·rfl
   rw [ea] at hc1
   exact hc1
  ·intro y hy
   simp only [List.mem_map] at hy
   obtain ⟨z, hz', rfl⟩ := hy
   have := hw z (List.mem_of_mem_take hz')
   have hQ : Q = 18446744073709551616 := by decide +kernel
   omega
  ·have he : d = .slice (lits .u64 (zs.take n)) (lits .u64 (zs.drop n)) := congrArg Prod.fst hx
   have hl2 : (lits (H := H) .u64 (zs.take n)).length = n := by simp [lits]; omega
   exact .inr ⟨_, _, he, hl2⟩
end Go.Proofs.YtnhlomphdighnaaGreat

namespace Go.Proofs.YtnhlomphdighnaaGreat
open Go.ChangeShapes Go.WideShapes Go.ChangeAt Go.RowKit Go.Joins Go.Proofs.YtnhlomphdighnaaGreat.Num
set_option linter.unusedVariables false
set_option maxRecDepth 100000

end Go.Proofs.YtnhlomphdighnaaGreat

namespace Go.Proofs.YtnhlomphdighnaaGreat
open Go.ChangeShapes Go.WideShapes Go.ChangeAt Go.RowKit Go.Joins Go.Deep Go.Proofs.YtnhlomphdighnaaGreat.Num
set_option linter.unusedVariables false
set_option maxRecDepth 100000
theorem weightsAll_mem {H : Type} {P : Program} {e : TypeId} {d : DataW H} {n : Nat} : ∀ {l : List (DataW H)}, d ∈ l → n ∈ d.weights P e → n ∈ DataW.weightsAll P e l
 | x :: r, hd, hn => by
  simp only [DataW.weightsAll, List.mem_append]
  rcases List.mem_cons.1 hd with rfl | hd
  ·exact .inl hn
  ·exact .inr (weightsAll_mem hd hn)
theorem open_rcells {H : Type} {enc : TypeId × Value → H} {W : World} {fuel : Nat} {cs : List Value} {y : DataW H × List MemPlace}
  (hf : DataW.trod enc Tryz.prog W 0 (fun _ => true) true fuel 41 cs = some y) :
  ∃ (x : Rx) (dw du : DataW H), cs = er x ∧ y.1 = .agg [.agg [.lit (.bool x.s), dw], du] ∧ DLen dw x.u.2.1 ∧ DLen du x.t.2.1 ∧ ∀ L, x.u.2.1 ≤ L → x.t.2.1 ≤ L → Ra W (rx x) x.r L := by
 obtain ⟨y0, y1, k, hx, hlen, h0, h1⟩ := trod_struct2 Tryz.underlying41 hf
 rw [show Tryz.prog.cellsOf 41 = 3 by kernel_rfl] at hlen
 obtain ⟨c0, c1, c2, rfl⟩ : ∃ c0 c1 c2, cs = [c0, c1, c2] := by
  match cs, hlen with
  | [c0, c1, c2], _ => exact ⟨_, _, _, rfl⟩
 have e2 : Tryz.prog.cellsOf 39 = 2 := by kernel_rfl
 have e1 : Tryz.prog.cellsOf 37 = 1 := by kernel_rfl
 have h0' : DataW.trod enc Tryz.prog W 0 (fun _ => true) true k 39 [c0, c1] = some y0 := by simpa [e2] using h0
 have h1' : DataW.trod enc Tryz.prog W 0 (fun _ => true) true k 37 [c2] = some y1 := by simpa [e1] using h1
 obtain ⟨z0, z1, k2, hz, _, g0, g1⟩ := trod_struct2 Tryz.underlying39 h0'
 have b1 : Tryz.prog.cellsOf 4 = 1 := by kernel_rfl
 have g0' : DataW.trod enc Tryz.prog W 0 (fun _ => true) true k2 4 [c0] = some z0 := by simpa [b1] using g0
 have g1' : DataW.trod enc Tryz.prog W 0 (fun _ => true) true k2 37 [c1] = some z1 := by simpa [e1] using g1
 obtain ⟨s, hs, rfl⟩ := DataW.trod_bool Tryz.underlying4 g0'
 obtain ⟨A, n, c, hc⟩ := slice_form Tryz.underlying37 g1'
 obtain ⟨D, m, f, hd⟩ := slice_form Tryz.underlying37 h1'
 obtain rfl : c0 = .bool s := by simpa using hs
 obtain rfl : c1 = .slice A n c := by simpa using hc
 obtain rfl : c2 = .slice D m f := by simpa using hd
 obtain ⟨xs, hr, dx, hnc, hcm, hl⟩ := open_words (d := z1.1) (ps := z1.2) Tryz.underlying37 ⟨k2, by simpa [Value.cells] using g1'⟩
 obtain ⟨ys, hr', dx', hnc', hcm', hl'⟩ := open_words (d := y1.1) (ps := y1.2) Tryz.underlying37 ⟨k, by simpa [Value.cells] using h1'⟩
 refine ⟨⟨s, (A, n, c), (D, m, f), mkRat (zi s (vl Q xs)) (if vl Q ys = 0 then 1 else vl Q ys)⟩, z1.1, y1.1, rfl, ?_, hl, hl', fun L h1 h2 => ?_⟩
 ·rw [hx, hz]
 ·exact ⟨s, _, _, vl Q xs, vl Q ys, rfl, ⟨A, n, c, xs, rfl, hr, dx, hnc, hcm, rfl, h1⟩, ⟨D, m, f, ys, rfl, hr', dx', hnc', hcm', rfl, h2⟩, rfl⟩
theorem open_tcells {H : Type} {enc : TypeId × Value → H} {W : World} {fuel : Nat} {cs : List Value} {y : DataW H × List MemPlace}
  (hf : DataW.trod enc Tryz.prog W 0 (fun _ => true) true fuel 51 cs = some y) :
  ∃ (x : Tx) (di dw du : DataW H), cs = et x ∧ y.1 = .agg [di, .agg [.agg [.lit (.bool x.x.s), dw], du]] ∧ DLen dw x.x.u.2.1 ∧ DLen du x.x.t.2.1 ∧ ∀ L, x.x.u.2.1 ≤ L → x.x.t.2.1 ≤ L → Ra W (rx x.x) x.x.r L := by
 obtain ⟨y0, y1, k, hx, hlen, h0, h1⟩ := trod_struct2 Tryz.underlying51 hf
 rw [show Tryz.prog.cellsOf 51 = 4 by kernel_rfl] at hlen
 obtain ⟨c0, c1, c2, c3, rfl⟩ : ∃ c0 c1 c2 c3, cs = [c0, c1, c2, c3] := by
  match cs, hlen with
  | [c0, c1, c2, c3], _ => exact ⟨_, _, _, _, rfl⟩
 have e3 : Tryz.prog.cellsOf 41 = 3 := by kernel_rfl
 have e1 : Tryz.prog.cellsOf 3 = 1 := by kernel_rfl
 have h0' : DataW.trod enc Tryz.prog W 0 (fun _ => true) true k 3 [c0] = some y0 := by simpa [e1] using h0
 have h1' : DataW.trod enc Tryz.prog W 0 (fun _ => true) true k 41 [c1, c2, c3] = some y1 := by simpa [e3] using h1
 obtain ⟨x, dw, du, e4, e5, l1, l2, hr⟩ := open_rcells h1'
 have hi : ∃ z : Int, c0 = .int .i64 z := by
  cases k with
  | zero => simp [DataW.trod] at h0'
  | succ k =>
   unfold DataW.trod at h0'
   rw [Tryz.underlying3] at h0'
   split at h0' <;> simp_all
 obtain ⟨z, rfl⟩ := hi
 refine ⟨⟨z, x⟩, y0.1, dw, du, ?_, ?_, l1, l2, hr⟩
 ·simp [er] at e4
  obtain ⟨rfl, rfl, rfl⟩ := e4
  rfl
 ·rw [hx, e5]
theorem dlen_le {H : Type} {d : DataW H} {n : Nat} (h : DLen d n) (hw : ∀ m ∈ d.weights Tryz.prog 37, m ≤ reachBytes) : n ≤ 17592186043904 := by
 rcases h with rfl | ⟨elems, spare, rfl, rfl⟩
 ·omega
 ·have h1 := hw ((elems.length + spare.length) * Tryz.prog.bytesOf 111) (by simp [DataW.weights, Tryz.underlying37])
  have h2 : Tryz.prog.bytesOf 111 = 8 := by kernel_rfl
  have h3 : reachBytes = 140737488351232 := by decide
  rw [h2, h3] at h1
  omega
theorem add_addr (b off j : Nat) : (⟨b, off, none⟩ : Addr).add j = ⟨b, off + j, none⟩ := by
 unfold Addr.add
 by_cases h : j = 0
 ·subst h; simp
 ·simp [h]
theorem open_tcs {H : Type} {enc : TypeId × Value → H} {W : World} {fuel : Nat} {A : Option Addr} {n c : Nat} {d : DataW H} {ps : List MemPlace}
  (hf' : DataW.trod enc Tryz.prog W 0 (fun _ => true) true fuel 31 [.slice A n c] = some (d, ps)) (hwd : ∀ q ∈ d.weights Tryz.prog 31, q ≤ reachBytes) : ∃ xs : List Tx, Tv W (.slice A n c) xs 17592186043904 := by
 rcases open_slice Tryz.underlying31 hf' with ⟨e, _⟩ | ⟨ad, len, cap, m, k, D, Pl, e, hb, hl, hm, hmm, hx, hel⟩
 ·simp at e
  obtain ⟨rfl, rfl, rfl⟩ := e
  exact ⟨[], Lr.nil _ _ _, fun x hx => by cases hx⟩
 ·simp at e
  obtain ⟨rfl, rfl, rfl⟩ := e
  have hlm : n ≤ m := by rw [hmm]; simp; omega
  have e4 : Tryz.prog.cellsOf 51 = 4 := by kernel_rfl
  rw [e4] at hel
  have hdx : d = .slice ((List.range n).map D) ((List.range (m - n)).map fun j => D (n + j)) := congrArg Prod.fst hx
  have hw : ∀ i, i < n → ∀ q ∈ (D i).weights Tryz.prog 51, q ≤ reachBytes := fun i hi q hq => by
   exact hwd q (by
    rw [hdx]
    simp only [DataW.weights, Tryz.underlying31, List.mem_cons, List.mem_append]
    exact .inr (.inl (weightsAll_mem (List.mem_map.2 ⟨i, List.mem_range.2 hi, rfl⟩) hq)))
  obtain ⟨X, hX⟩ := choose_lt (α := Tx) (p := fun i x => (∀ q u, (et x)[q]? = some u → W.cell? (ad.add (i * 4 + q)) = some u) ∧ Ra W (rx x.x) x.x.r 17592186043904) (n := n) (fun i hi => by
   obtain ⟨cs', h1, h2⟩ := hel i (by omega)
   obtain ⟨x, di, dw, du, rfl, hy, l1, l2, hr⟩ := open_tcells h2
   obtain ⟨_, _, hc⟩ := World.cells?_some h1
   have hy' : D i = .agg [di, .agg [.agg [.lit (.bool x.x.s), dw], du]] := hy
   have w1 := dlen_le l1 (fun q hq => hw i hi q (by
    rw [hy']
    simp only [DataW.weights, DataW.weightsEach, Tryz.underlying51, Tryz.underlying41, Tryz.underlying39, List.map_cons, List.map_nil, List.mem_append]
    simp [hq]))
   have w2 := dlen_le l2 (fun q hq => hw i hi q (by
    rw [hy']
    simp only [DataW.weights, DataW.weightsEach, Tryz.underlying51, Tryz.underlying41, Tryz.underlying39, List.map_cons, List.map_nil, List.mem_append]
    simp [hq]))
   refine ⟨x, fun q u hq => ?_, hr _ w1 w2⟩
   have hq4 : q < 4 := by have := (List.getElem?_eq_some_iff.1 hq).1; rwa [et_len] at this
   have h3 := hc q hq4
   rw [hq] at h3
   rw [← h3]
   congr 1
   obtain ⟨b, off, sp⟩ := ad
   unfold Addr.add
   by_cases hi0 : i * 4 = 0
   ·by_cases hq0 : q = 0
    ·simp [hi0, hq0]
    ·simp [hi0, hq0]
   ·by_cases hq0 : q = 0
    ·simp [hi0, hq0]
    ·have : i * 4 + q ≠ 0 := by omega
     simp [hi0, hq0]
     try omega)
  refine ⟨(List.range n).map X, ⟨some ad, c, by simp, by simpa using hl, hm, fun hn => ?_⟩, fun x hx => ?_⟩
  ·simp at hn
   obtain ⟨h1, _⟩ := hX 0 hn
   have h2 := h1 0 _ rfl
   obtain ⟨b, off, spot⟩ := ad
   have hs : spot = none := by simpa [Addr.add] using World.cell?_spot h2
   subst hs
   refine ⟨b, off, rfl, ?_, fun i x hi q u hq => ?_⟩
   ·unfold World.cell? at h2
    split at h2
    ·rename_i hb2
     exact (Array.getElem?_eq_some_iff.1 hb2).1
    ·cases h2
   ·have hin : i < n := by have := (List.getElem?_eq_some_iff.1 hi).1; simpa using this
    have hxe : x = X i := by
     rw [List.getElem?_map, List.getElem?_range hin] at hi
     simpa using hi.symm
    subst hxe
    have h5 := (hX i hin).1 q u hq
    rw [add_addr] at h5
    rwa [Nat.add_assoc]
  ·obtain ⟨i, hi, rfl⟩ := List.mem_map.1 hx
   exact (hX i (List.mem_range.1 hi)).2
set_option linter.unusedSimpArgs false
theorem open_listE {H : Type} {enh : TypeId × Value → H} {W : World} {α : Type} [Inhabited α] {enc : α → List Value} {K : Nat} {P : α → Prop} {t e : TypeId} {fuel : Nat} {A : Option Addr} {n c : Nat} {d : DataW H} {ps : List MemPlace}
  (ht : Tryz.prog.underlying t = some (.slice e)) (hk : Tryz.prog.cellsOf e = K) (hl0 : ∀ x, (enc x).length = K) (h0 : 0 < K)
  (hel0 : ∀ (fuel : Nat) (cs : List Value) (y : DataW H × List MemPlace), DataW.trod enh Tryz.prog W 0 (fun _ => true) true fuel e cs = some y → (∀ q ∈ y.1.weights Tryz.prog e, q ≤ reachBytes) → ∃ x, cs = enc x ∧ P x)
  (hf' : DataW.trod enh Tryz.prog W 0 (fun _ => true) true fuel t [.slice A n c] = some (d, ps)) (hwd : ∀ q ∈ d.weights Tryz.prog t, q ≤ reachBytes) : ∃ l : List α, Lr enc K W (.slice A n c) l ∧ ∀ x ∈ l, P x := by
 rcases open_slice ht hf' with ⟨e, _⟩ | ⟨ad, len, cap, m, k, D, Pl, e, hb, hl, hm, hmm, hx, hel⟩
 ·simp at e
  obtain ⟨rfl, rfl, rfl⟩ := e
  exact ⟨[], Lr.nil _ _ _, fun x hx => by cases hx⟩
 ·simp at e
  obtain ⟨rfl, rfl, rfl⟩ := e
  have hlm : n ≤ m := by rw [hmm]; simp; omega
  rw [hk] at hel
  have hdx : d = .slice ((List.range n).map D) ((List.range (m - n)).map fun j => D (n + j)) := congrArg Prod.fst hx
  have hw : ∀ i, i < n → ∀ q ∈ (D i).weights Tryz.prog _, q ≤ reachBytes := fun i hi q hq => by
   exact hwd q (by
    rw [hdx]
    simp only [DataW.weights, ht, List.mem_cons, List.mem_append]
    exact .inr (.inl (weightsAll_mem (List.mem_map.2 ⟨i, List.mem_range.2 hi, rfl⟩) hq)))
  obtain ⟨X, hX⟩ := choose_lt (α := α) (p := fun i x => (∀ q u, (enc x)[q]? = some u → W.cell? (ad.add (i * K + q)) = some u) ∧ P x) (n := n) (fun i hi => by
   obtain ⟨cs', h1, h2⟩ := hel i (by omega)
   obtain ⟨x, rfl, hkv⟩ := hel0 _ _ _ h2 (hw i hi)
   obtain ⟨_, _, hc⟩ := World.cells?_some h1
   refine ⟨x, fun q u hq => ?_, hkv⟩
   have hq4 : q < K := by have := (List.getElem?_eq_some_iff.1 hq).1; rwa [hl0] at this
   have h3 := hc q hq4
   rw [hq] at h3
   rw [← h3]
   congr 1
   obtain ⟨b, off, sp⟩ := ad
   unfold Addr.add
   by_cases hi0 : i * K = 0
   ·by_cases hq0 : q = 0
    ·simp [hi0, hq0]
    ·simp [hi0, hq0]
   ·by_cases hq0 : q = 0
    ·simp [hi0, hq0]
    ·have : i * K + q ≠ 0 := by omega
     simp [hi0, hq0]
     try omega)
  refine ⟨(List.range n).map X, ⟨some ad, c, by simp, by simpa using hl, hm, fun hn => ?_⟩, fun x hx => ?_⟩
  ·simp at hn
   obtain ⟨h1, _⟩ := hX 0 hn
   obtain ⟨u0, hu0⟩ : ∃ u0, (enc (X 0))[0]? = some u0 := ⟨_, List.getElem?_eq_getElem (by rw [hl0]; exact h0)⟩
   have h2 := h1 0 _ hu0
   rw [show 0 * K + 0 = 0 by simp] at h2
   obtain ⟨b, off, spot⟩ := ad
   have hs : spot = none := by simpa [Addr.add] using World.cell?_spot h2
   subst hs
   refine ⟨b, off, rfl, ?_, fun i x hi q u hq => ?_⟩
   ·unfold World.cell? at h2
    split at h2
    ·rename_i hb2
     simpa [Addr.add] using (Array.getElem?_eq_some_iff.1 hb2).1
    ·cases h2
   ·have hin : i < n := by have := (List.getElem?_eq_some_iff.1 hi).1; simpa using this
    have hxe : x = X i := by
     rw [List.getElem?_map, List.getElem?_range hin] at hi
     simpa using hi.symm
    subst hxe
    have h5 := (hX i hin).1 q u hq
    rw [add_addr] at h5
    rwa [Nat.add_assoc]
  ·obtain ⟨i, hi, rfl⟩ := List.mem_map.1 hx
   exact (hX i (List.mem_range.1 hi)).2
theorem open_rcW {H : Type} {enc : TypeId × Value → H} {W : World} {fuel : Nat} {cs : List Value} {y : DataW H × List MemPlace}
  (hf : DataW.trod enc Tryz.prog W 0 (fun _ => true) true fuel 41 cs = some y) (hw : ∀ q ∈ y.1.weights Tryz.prog 41, q ≤ reachBytes) : ∃ x : Rx, cs = er x ∧ Ra W (rx x) x.r 17592186043904 := by
 obtain ⟨x, dw, du, e4, e5, l1, l2, hr⟩ := open_rcells hf
 rw [e5] at hw
 have q1 := dlen_le l1 (fun q hq => hw q (by
  simp only [DataW.weights, DataW.weightsEach, Tryz.underlying41, Tryz.underlying39, List.map_cons, List.map_nil, List.mem_append]
  simp [hq]))
 have q2 := dlen_le l2 (fun q hq => hw q (by
  simp only [DataW.weights, DataW.weightsEach, Tryz.underlying41, Tryz.underlying39, List.map_cons, List.map_nil, List.mem_append]
  simp [hq]))
 exact ⟨x, e4, hr _ q1 q2⟩
theorem open_wcells {H : Type} {enc : TypeId × Value → H} {W : World} {fuel : Nat} {cs : List Value} {y : DataW H × List MemPlace}
  (hf : DataW.trod enc Tryz.prog W 0 (fun _ => true) true fuel 53 cs = some y) (hwd : ∀ q ∈ y.1.weights Tryz.prog 53, q ≤ reachBytes) : ∃ r : Wx, cs = ew r ∧ Wv W r 17592186043904 := by
 obtain ⟨xs, k, _, hx, hlen, hl, hg⟩ := DataW.trod_struct Tryz.underlying53 hf
 rw [show Tryz.prog.cellsOf 53 = 10 by kernel_rfl] at hlen
 obtain ⟨c0, c1, c2, c3, c4, c5, c6, c7, c8, c9, rfl⟩ : ∃ c0 c1 c2 c3 c4 c5 c6 c7 c8 c9, cs = [c0, c1, c2, c3, c4, c5, c6, c7, c8, c9] := by
  match cs, hlen with
  | [c0, c1, c2, c3, c4, c5, c6, c7, c8, c9], _ => exact ⟨_, _, _, _, _, _, _, _, _, _, rfl⟩
 obtain ⟨y0, y1, y2, y3, y4, y5, rfl⟩ : ∃ y0 y1 y2 y3 y4 y5, xs = [y0, y1, y2, y3, y4, y5] := by
  match xs, hl with
  | [y0, y1, y2, y3, y4, y5], _ => exact ⟨_, _, _, _, _, _, rfl⟩
 have es : Tryz.prog.cellsOf 9 = 1 := by kernel_rfl
 have eb : Tryz.prog.cellsOf 4 = 1 := by kernel_rfl
 have e3 : Tryz.prog.cellsOf 41 = 3 := by kernel_rfl
 have et' : Tryz.prog.cellsOf 31 = 1 := by kernel_rfl
 have h0 : DataW.trod enc Tryz.prog W 0 (fun _ => true) true k 9 [c0] = some y0 := by simpa [es] using hg 0 _ rfl
 have h1 : DataW.trod enc Tryz.prog W 0 (fun _ => true) true k 4 [c1] = some y1 := by simpa [eb] using hg 1 _ rfl
 have h2 : DataW.trod enc Tryz.prog W 0 (fun _ => true) true k 4 [c2] = some y2 := by simpa [eb] using hg 2 _ rfl
 have h3 : DataW.trod enc Tryz.prog W 0 (fun _ => true) true k 41 [c3, c4, c5] = some y3 := by simpa [e3] using hg 3 _ rfl
 have h4 : DataW.trod enc Tryz.prog W 0 (fun _ => true) true k 41 [c6, c7, c8] = some y4 := by simpa [e3] using hg 4 _ rfl
 have h5 : DataW.trod enc Tryz.prog W 0 (fun _ => true) true k 31 [c9] = some y5 := by simpa [et'] using hg 5 _ rfl
 have hy : y.1 = .agg [y0.1, y1.1, y2.1, y3.1, y4.1, y5.1] := by rw [hx]; rfl
 have w3 : ∀ q ∈ y3.1.weights Tryz.prog 41, q ≤ reachBytes := fun q hq => hwd q (by
  rw [hy]
  simp only [DataW.weights, DataW.weightsEach, Tryz.underlying53, List.map_cons, List.map_nil, List.mem_append]
  simp [hq])
 have w4 : ∀ q ∈ y4.1.weights Tryz.prog 41, q ≤ reachBytes := fun q hq => hwd q (by
  rw [hy]
  simp only [DataW.weights, DataW.weightsEach, Tryz.underlying53, List.map_cons, List.map_nil, List.mem_append]
  simp [hq])
 have w5 : ∀ q ∈ y5.1.weights Tryz.prog 31, q ≤ reachBytes := fun q hq => hwd q (by
  rw [hy]
  simp only [DataW.weights, DataW.weightsEach, Tryz.underlying53, List.map_cons, List.map_nil, List.mem_append]
  simp [hq])
 obtain ⟨s, hs, -, -⟩ := DataW.trod_string Tryz.underlying9 h0
 obtain ⟨b1, hb1, -⟩ := DataW.trod_bool Tryz.underlying4 h1
 obtain ⟨b2, hb2, -⟩ := DataW.trod_bool Tryz.underlying4 h2
 obtain ⟨lo, el, rl⟩ := open_rcW h3 w3
 obtain ⟨hi, eh, rh⟩ := open_rcW h4 w4
 obtain ⟨A, n, c, hc⟩ := slice_form Tryz.underlying31 h5
 obtain rfl : c9 = .slice A n c := by simpa using hc
 obtain ⟨ts, hts⟩ := open_tcs (d := y5.1) (ps := y5.2) h5 w5
 simp [er] at el eh hs hb1 hb2
 obtain ⟨rfl, rfl, rfl⟩ := el
 obtain ⟨rfl, rfl, rfl⟩ := eh
 subst hs hb1 hb2
 exact ⟨⟨s, b1, b2, lo, hi, (A, n, c), ts⟩, rfl, hts, rl, rh⟩
theorem open_ucells {H : Type} {enc : TypeId × Value → H} {W : World} {fuel : Nat} {cs : List Value} {y : DataW H × List MemPlace}
  (hf : DataW.trod enc Tryz.prog W 0 (fun _ => true) true fuel 43 cs = some y) (hwd : ∀ q ∈ y.1.weights Tryz.prog 43, q ≤ reachBytes) : ∃ r : Ux, cs = eu r ∧ Uv W r 17592186043904 := by
 obtain ⟨xs, k, _, hx, hlen, hl, hg⟩ := DataW.trod_struct Tryz.underlying43 hf
 rw [show Tryz.prog.cellsOf 43 = 13 by kernel_rfl] at hlen
 obtain ⟨c0, c1, c2, c3, c4, c5, c6, c7, c8, c9, c10, c11, c12, rfl⟩ : ∃ c0 c1 c2 c3 c4 c5 c6 c7 c8 c9 c10 c11 c12, cs = [c0, c1, c2, c3, c4, c5, c6, c7, c8, c9, c10, c11, c12] := by
  match cs, hlen with
  | [c0, c1, c2, c3, c4, c5, c6, c7, c8, c9, c10, c11, c12], _ => exact ⟨_, _, _, _, _, _, _, _, _, _, _, _, _, rfl⟩
 obtain ⟨y0, y1, y2, y3, y4, y5, y6, rfl⟩ : ∃ y0 y1 y2 y3 y4 y5 y6, xs = [y0, y1, y2, y3, y4, y5, y6] := by
  match xs, hl with
  | [y0, y1, y2, y3, y4, y5, y6], _ => exact ⟨_, _, _, _, _, _, _, rfl⟩
 have es : Tryz.prog.cellsOf 9 = 1 := by kernel_rfl
 have eb : Tryz.prog.cellsOf 4 = 1 := by kernel_rfl
 have e3 : Tryz.prog.cellsOf 41 = 3 := by kernel_rfl
 have h0 : DataW.trod enc Tryz.prog W 0 (fun _ => true) true k 9 [c0] = some y0 := by simpa [es] using hg 0 _ rfl
 have h1 : DataW.trod enc Tryz.prog W 0 (fun _ => true) true k 4 [c1] = some y1 := by simpa [eb] using hg 1 _ rfl
 have h2 : DataW.trod enc Tryz.prog W 0 (fun _ => true) true k 4 [c2] = some y2 := by simpa [eb] using hg 2 _ rfl
 have h3 : DataW.trod enc Tryz.prog W 0 (fun _ => true) true k 4 [c3] = some y3 := by simpa [eb] using hg 3 _ rfl
 have h4 : DataW.trod enc Tryz.prog W 0 (fun _ => true) true k 41 [c4, c5, c6] = some y4 := by simpa [e3] using hg 4 _ rfl
 have h5 : DataW.trod enc Tryz.prog W 0 (fun _ => true) true k 41 [c7, c8, c9] = some y5 := by simpa [e3] using hg 5 _ rfl
 have h6 : DataW.trod enc Tryz.prog W 0 (fun _ => true) true k 41 [c10, c11, c12] = some y6 := by simpa [e3] using hg 6 _ rfl
 have hy : y.1 = .agg [y0.1, y1.1, y2.1, y3.1, y4.1, y5.1, y6.1] := by rw [hx]; rfl
 have w4 : ∀ q ∈ y4.1.weights Tryz.prog 41, q ≤ reachBytes := fun q hq => hwd q (by
  rw [hy]
  simp only [DataW.weights, DataW.weightsEach, Tryz.underlying43, List.map_cons, List.map_nil, List.mem_append]
  simp [hq])
 have w5 : ∀ q ∈ y5.1.weights Tryz.prog 41, q ≤ reachBytes := fun q hq => hwd q (by
  rw [hy]
  simp only [DataW.weights, DataW.weightsEach, Tryz.underlying43, List.map_cons, List.map_nil, List.mem_append]
  simp [hq])
 have w6 : ∀ q ∈ y6.1.weights Tryz.prog 41, q ≤ reachBytes := fun q hq => hwd q (by
  rw [hy]
  simp only [DataW.weights, DataW.weightsEach, Tryz.underlying43, List.map_cons, List.map_nil, List.mem_append]
  simp [hq])
 obtain ⟨s, hs, -, -⟩ := DataW.trod_string Tryz.underlying9 h0
 obtain ⟨b1, hb1, -⟩ := DataW.trod_bool Tryz.underlying4 h1
 obtain ⟨b2, hb2, -⟩ := DataW.trod_bool Tryz.underlying4 h2
 obtain ⟨b3, hb3, -⟩ := DataW.trod_bool Tryz.underlying4 h3
 obtain ⟨lo, el, rl⟩ := open_rcW h4 w4
 obtain ⟨hi, eh, rh⟩ := open_rcW h5 w5
 obtain ⟨co, ec, rc⟩ := open_rcW h6 w6
 simp [er] at el eh ec hs hb1 hb2 hb3
 obtain ⟨rfl, rfl, rfl⟩ := el
 obtain ⟨rfl, rfl, rfl⟩ := eh
 obtain ⟨rfl, rfl, rfl⟩ := ec
 subst hs hb1 hb2 hb3
 exact ⟨⟨s, b1, b2, b3, lo, hi, co⟩, rfl, rl, rh, rc⟩
theorem open_prob {H : Type} {enc : TypeId × Value → H} {W : World} {r : Reach} {b0 : Nat} {v : Value} {d : DataW H} {ps : List MemPlace}
  (hv : Value.okWide Tryz.prog W r b0 25 v) (h : DataW.Trod enc Tryz.prog W 0 (fun _ => true) true 25 v d ps)
  {ts : List TypeId} {ds : List (DataW H)} (hS : (DataW.weightsEach Tryz.prog ts ds).all (· ≤ reachBytes) = true) {j : Nat} (ht : ts[j]? = some 25) (hd : ds[j]? = some d) : ∃ p : Px, v = px p ∧ Pv W p 17592186043904 := by
 obtain ⟨cs, rfl, hsz⟩ := okWide_struct Tryz.underlying25 hv
 obtain ⟨c0, c1, c2, c3, rfl⟩ := array4 (hsz.trans (show Tryz.prog.cellsOf 25 = 4 by kernel_rfl))
 obtain ⟨fuel, hf⟩ := h
 have hf' : DataW.trod enc Tryz.prog W 0 (fun _ => true) true fuel 25 [c0, c1, c2, c3] = some (d, ps) := by simpa [Value.cells] using hf
 obtain ⟨y0, y1, y2, y3, k, hx, hlen, h0, h1, h2, h3⟩ := trod_struct4 Tryz.underlying25 hf'
 have es : Tryz.prog.cellsOf 9 = 1 := by kernel_rfl
 have e2 : Tryz.prog.cellsOf 22 = 1 := by kernel_rfl
 have e3 : Tryz.prog.cellsOf 23 = 1 := by kernel_rfl
 have h0' : DataW.trod enc Tryz.prog W 0 (fun _ => true) true k 9 [c0] = some y0 := by simpa [es] using h0
 have h1' : DataW.trod enc Tryz.prog W 0 (fun _ => true) true k 9 [c1] = some y1 := by simpa [es] using h1
 have h2' : DataW.trod enc Tryz.prog W 0 (fun _ => true) true k 22 [c2] = some y2 := by simpa [e2] using h2
 have h3' : DataW.trod enc Tryz.prog W 0 (fun _ => true) true k 23 [c3] = some y3 := by simpa [e3] using h3
 have hy : d = .agg [y0.1, y1.1, y2.1, y3.1] := congrArg Prod.fst hx
 have hwd : ∀ q ∈ d.weights Tryz.prog 25, q ≤ reachBytes := fun q hq => by
  have := List.all_eq_true.1 hS q (DataW.weights_mem_each ht hd q hq)
  simpa using this
 have w2 : ∀ q ∈ y2.1.weights Tryz.prog 22, q ≤ reachBytes := fun q hq => hwd q (by
  rw [hy]
  simp only [DataW.weights, DataW.weightsEach, Tryz.underlying25, List.map_cons, List.map_nil, List.mem_append]
  simp [hq])
 have w3 : ∀ q ∈ y3.1.weights Tryz.prog 23, q ≤ reachBytes := fun q hq => hwd q (by
  rw [hy]
  simp only [DataW.weights, DataW.weightsEach, Tryz.underlying25, List.map_cons, List.map_nil, List.mem_append]
  simp [hq])
 obtain ⟨s, hs, -, -⟩ := DataW.trod_string Tryz.underlying9 h0'
 obtain ⟨t, hst, -, -⟩ := DataW.trod_string Tryz.underlying9 h1'
 obtain ⟨A, n, c, hc⟩ := slice_form Tryz.underlying22 h2'
 obtain ⟨D, m, f, hc'⟩ := slice_form Tryz.underlying23 h3'
 simp at hs hst hc hc'
 subst hs hst hc hc'
 obtain ⟨rows, r1, r2⟩ := open_listE (d := y2.1) (ps := y2.2) (enc := ew) (K := 10) (P := fun r => Wv W r 17592186043904) Tryz.underlying22 (by kernel_rfl) ew_len (by omega) (fun fuel cs y h1 h2 => open_wcells h1 h2) h2' w2
 obtain ⟨vars, v1, v2⟩ := open_listE (d := y3.1) (ps := y3.2) (enc := eu) (K := 13) (P := fun r => Uv W r 17592186043904) Tryz.underlying23 (by kernel_rfl) eu_len (by omega) (fun fuel cs y h1 h2 => open_ucells h1 h2) h3' w3
 exact ⟨⟨s, t, (A, n, c), rows, (D, m, f), vars⟩, rfl, ⟨r1, r2⟩, v1, v2⟩
end Go.Proofs.YtnhlomphdighnaaGreat
