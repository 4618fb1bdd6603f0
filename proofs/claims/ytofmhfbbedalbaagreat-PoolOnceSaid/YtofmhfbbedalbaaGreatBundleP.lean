/-
  Shared texts, one behind the other: Open, OpenZ, OpenR, OpenV, OpenK, OpenF.
-/
import Derived.Test.YtofmhfbbedalbaaGreatFrameK
import Derived.Test.YtofmhfbbedalbaaGreatBundleA
import Derived.ChangeSlices
import Derived.SizedLaws
import Derived.Test.YtofmhfbbedalbaaGreatBundleD
import Derived.ChangeSame
import Derived.Test.YtofmhfbbedalbaaGreatBundleF
import Derived.Test.YtofmhfbbedalbaaGreatTv
import Derived.Deep.Slices
import Derived.Test.YtofmhfbbedalbaaGreatBundleM
import Derived.Deep.Strs
import Derived.Deep.Grids

namespace Go.Proofs.YtofmhfbbedalbaaGreat
open Go.ChangeShapes Go.WideShapes Go.ChangeAt Go.RowKit Go.Proofs.YtofmhfbbedalbaaGreat.Num
set_option linter.unusedVariables false
theorem getD_toNat (zs : List Int) (i : Nat) : ((zs.map Int.toNat).getD i 0) = (zs.getD i 0).toNat := by
 simp only [List.getD_eq_getElem?_getD, List.getElem?_map]
 cases zs[i]? <;> simp
def DLen {H : Type} (d : DataW H) (n : Nat) : Prop := n = 0 ∨ ∃ elems spare, d = .slice elems spare ∧ elems.length = n
theorem open_words {H : Type} {enc : TypeId × Value → H} {W : World} {t : TypeId} {A : Option Addr} {n c : Nat} {d : DataW H} {ps : List MemPlace}
  (ht : Tryz.prog.underlying t = some (.slice 109)) (h : DataW.Trod enc Tryz.prog W 0 (fun _ => true) true t (.slice A n c) d ps) :
  ∃ xs, Rd .u64 W W.heap.size A n xs ∧ Dg Q xs ∧ n ≤ c ∧ c ≤ maxLen ∧ DLen d n := by
 obtain ⟨fuel, hf⟩ := h
 rcases open_ints ht Tryz.underlying109 (by kernel_rfl) hf with ⟨hcs, hx⟩ | ⟨x, l, c', zs, hcs, _, hl, hm, hz, hx, hcell, hwz⟩
 ·simp [Value.cells] at hcs
  obtain ⟨rfl, rfl, rfl⟩ := hcs
  exact ⟨[], Rd.nil, Dg.nil, Nat.le_refl _, Nat.zero_le _, .inl rfl⟩
 ·simp [Value.cells] at hcs
  obtain ⟨rfl, rfl, rfl⟩ := hcs
  have hzn : zs.length = c := by simpa using hz
  have hlen : ((zs.take n).map Int.toNat).length = n := by simp; omega
  have hw : ∀ z ∈ zs, 0 ≤ z ∧ z < 18446744073709551616 := fun z hz' => by
   have := hwz z hz'
   simp [Lit.wf, IntKind.min, IntKind.max, IntKind.signed, IntKind.bits] at this
   omega
  refine ⟨(zs.take n).map Int.toNat, ⟨hlen, fun hn => ?_⟩, ?_, hl, hm, ?_⟩
  ·have hc0 := hcell 0 (by omega)
   obtain ⟨b, off, spot⟩ := x
   have hs : spot = none := by simpa [Addr.add] using World.cell?_spot hc0
   subst hs
   have hb : b < W.heap.size := by
    unfold World.cell? at hc0
    split at hc0
    ·rename_i hb
     exact (Array.getElem?_eq_some_iff.1 hb).1
    ·cases hc0
   refine ⟨b, off, rfl, hb, fun j hj => ?_⟩
   have hc1 := hcell j (by omega)
   have hg : zs.getD j 0 ∈ zs := by
    rw [List.getD_eq_getElem?_getD, List.getElem?_eq_getElem (by omega)]
    simp
   have hnn := hw _ hg
   rw [getD_toNat]
   have ht' : (zs.take n).getD j 0 = zs.getD j 0 := by
    simp only [List.getD_eq_getElem?_getD]
    rw [List.getElem?_take_of_lt hj]
   rw [ht', Int.toNat_of_nonneg hnn.1]
   have ea : (⟨b, off, none⟩ : Addr).add j = ⟨b, off + j, none⟩ := by
    unfold Addr.add
    split
    ·rename_i h0
     subst h0
     rfl
    ·rfl
   rw [ea] at hc1
   exact hc1
  ·intro y hy
   simp only [List.mem_map] at hy
   obtain ⟨z, hz', rfl⟩ := hy
   have := hw z (List.mem_of_mem_take hz')
   have hQ : Q = 18446744073709551616 := by decide +kernel
   omega
  ·have he : d = .slice (lits .u64 (zs.take n)) (lits .u64 (zs.drop n)) := congrArg Prod.fst hx
   have hl2 : (lits (H := H) .u64 (zs.take n)).length = n := by simp [lits]; omega
   exact .inr ⟨_, _, he, hl2⟩
end Go.Proofs.YtofmhfbbedalbaaGreat

namespace Go.Proofs.YtofmhfbbedalbaaGreat
open Go.ChangeShapes Go.WideShapes Go.ChangeAt Go.RowKit Go.Joins Go.Proofs.YtofmhfbbedalbaaGreat.Num
set_option linter.unusedVariables false
set_option maxRecDepth 100000

end Go.Proofs.YtofmhfbbedalbaaGreat

namespace Go.Proofs.YtofmhfbbedalbaaGreat
open Go.ChangeShapes Go.WideShapes Go.ChangeAt Go.RowKit Go.Joins Go.Deep Go.Proofs.YtofmhfbbedalbaaGreat.Num
set_option linter.unusedVariables false
set_option maxRecDepth 100000
theorem weightsAll_mem {H : Type} {P : Program} {e : TypeId} {d : DataW H} {n : Nat} : ∀ {l : List (DataW H)}, d ∈ l → n ∈ d.weights P e → n ∈ DataW.weightsAll P e l
 | x :: r, hd, hn => by
  simp only [DataW.weightsAll, List.mem_append]
  rcases List.mem_cons.1 hd with rfl | hd
  ·exact .inl hn
  ·exact .inr (weightsAll_mem hd hn)
theorem open_rcells {H : Type} {enc : TypeId × Value → H} {W : World} {fuel : Nat} {cs : List Value} {y : DataW H × List MemPlace}
  (hf : DataW.trod enc Tryz.prog W 0 (fun _ => true) true fuel 27 cs = some y) :
  ∃ (x : Rx) (dw du : DataW H), cs = er x ∧ y.1 = .agg [.agg [.lit (.bool x.s), dw], du] ∧ DLen dw x.u.2.1 ∧ DLen du x.t.2.1 ∧ ∀ L, x.u.2.1 ≤ L → x.t.2.1 ≤ L → Ra W (rx x) x.r L := by
 obtain ⟨y0, y1, k, hx, hlen, h0, h1⟩ := trod_struct2 Tryz.underlying27 hf
 rw [show Tryz.prog.cellsOf 27 = 3 by kernel_rfl] at hlen
 obtain ⟨c0, c1, c2, rfl⟩ : ∃ c0 c1 c2, cs = [c0, c1, c2] := by
  match cs, hlen with
  | [c0, c1, c2], _ => exact ⟨_, _, _, rfl⟩
 have e2 : Tryz.prog.cellsOf 25 = 2 := by kernel_rfl
 have e1 : Tryz.prog.cellsOf 23 = 1 := by kernel_rfl
 have h0' : DataW.trod enc Tryz.prog W 0 (fun _ => true) true k 25 [c0, c1] = some y0 := by simpa [e2] using h0
 have h1' : DataW.trod enc Tryz.prog W 0 (fun _ => true) true k 23 [c2] = some y1 := by simpa [e1] using h1
 obtain ⟨z0, z1, k2, hz, _, g0, g1⟩ := trod_struct2 Tryz.underlying25 h0'
 have b1 : Tryz.prog.cellsOf 4 = 1 := by kernel_rfl
 have g0' : DataW.trod enc Tryz.prog W 0 (fun _ => true) true k2 4 [c0] = some z0 := by simpa [b1] using g0
 have g1' : DataW.trod enc Tryz.prog W 0 (fun _ => true) true k2 23 [c1] = some z1 := by simpa [e1] using g1
 obtain ⟨s, hs, rfl⟩ := DataW.trod_bool Tryz.underlying4 g0'
 obtain ⟨A, n, c, hc⟩ := slice_form Tryz.underlying23 g1'
 obtain ⟨D, m, f, hd⟩ := slice_form Tryz.underlying23 h1'
 obtain rfl : c0 = .bool s := by simpa using hs
 obtain rfl : c1 = .slice A n c := by simpa using hc
 obtain rfl : c2 = .slice D m f := by simpa using hd
 obtain ⟨xs, hr, dx, hnc, hcm, hl⟩ := open_words (d := z1.1) (ps := z1.2) Tryz.underlying23 ⟨k2, by simpa [Value.cells] using g1'⟩
 obtain ⟨ys, hr', dx', hnc', hcm', hl'⟩ := open_words (d := y1.1) (ps := y1.2) Tryz.underlying23 ⟨k, by simpa [Value.cells] using h1'⟩
 refine ⟨⟨s, (A, n, c), (D, m, f), mkRat (zi s (vl Q xs)) (if vl Q ys = 0 then 1 else vl Q ys)⟩, z1.1, y1.1, rfl, ?_, hl, hl', fun L h1 h2 => ?_⟩
 ·rw [hx, hz]
 ·exact ⟨s, _, _, vl Q xs, vl Q ys, rfl, ⟨A, n, c, xs, rfl, hr, dx, hnc, hcm, rfl, h1⟩, ⟨D, m, f, ys, rfl, hr', dx', hnc', hcm', rfl, h2⟩, rfl⟩
theorem open_tcells {H : Type} {enc : TypeId × Value → H} {W : World} {fuel : Nat} {cs : List Value} {y : DataW H × List MemPlace}
  (hf : DataW.trod enc Tryz.prog W 0 (fun _ => true) true fuel 59 cs = some y) :
  ∃ (x : Tx) (di dw du : DataW H), cs = et x ∧ y.1 = .agg [di, .agg [.agg [.lit (.bool x.x.s), dw], du]] ∧ DLen dw x.x.u.2.1 ∧ DLen du x.x.t.2.1 ∧ ∀ L, x.x.u.2.1 ≤ L → x.x.t.2.1 ≤ L → Ra W (rx x.x) x.x.r L := by
 obtain ⟨y0, y1, k, hx, hlen, h0, h1⟩ := trod_struct2 Tryz.underlying59 hf
 rw [show Tryz.prog.cellsOf 59 = 4 by kernel_rfl] at hlen
 obtain ⟨c0, c1, c2, c3, rfl⟩ : ∃ c0 c1 c2 c3, cs = [c0, c1, c2, c3] := by
  match cs, hlen with
  | [c0, c1, c2, c3], _ => exact ⟨_, _, _, _, rfl⟩
 have e3 : Tryz.prog.cellsOf 27 = 3 := by kernel_rfl
 have e1 : Tryz.prog.cellsOf 3 = 1 := by kernel_rfl
 have h0' : DataW.trod enc Tryz.prog W 0 (fun _ => true) true k 3 [c0] = some y0 := by simpa [e1] using h0
 have h1' : DataW.trod enc Tryz.prog W 0 (fun _ => true) true k 27 [c1, c2, c3] = some y1 := by simpa [e3] using h1
 obtain ⟨x, dw, du, e4, e5, l1, l2, hr⟩ := open_rcells h1'
 have hi : ∃ z : Int, c0 = .int .i64 z := by
  cases k with
  | zero => simp [DataW.trod] at h0'
  | succ k =>
   unfold DataW.trod at h0'
   rw [Tryz.underlying3] at h0'
   split at h0' <;> simp_all
 obtain ⟨z, rfl⟩ := hi
 refine ⟨⟨z, x⟩, y0.1, dw, du, ?_, ?_, l1, l2, hr⟩
 ·simp [er] at e4
  obtain ⟨rfl, rfl, rfl⟩ := e4
  rfl
 ·rw [hx, e5]
theorem dlen_le {H : Type} {d : DataW H} {n : Nat} (h : DLen d n) (hw : ∀ m ∈ d.weights Tryz.prog 23, m ≤ reachBytes) : n ≤ 17592186043904 := by
 rcases h with rfl | ⟨elems, spare, rfl, rfl⟩
 ·omega
 ·have h1 := hw ((elems.length + spare.length) * Tryz.prog.bytesOf 109) (by simp [DataW.weights, Tryz.underlying23])
  have h2 : Tryz.prog.bytesOf 109 = 8 := by kernel_rfl
  have h3 : reachBytes = 140737488351232 := by decide
  rw [h2, h3] at h1
  omega
theorem add_addr (b off j : Nat) : (⟨b, off, none⟩ : Addr).add j = ⟨b, off + j, none⟩ := by
 unfold Addr.add
 by_cases h : j = 0
 ·subst h; simp
 ·simp [h]
theorem open_tcs {H : Type} {enc : TypeId × Value → H} {W : World} {fuel : Nat} {A : Option Addr} {n c : Nat} {d : DataW H} {ps : List MemPlace}
  (hf' : DataW.trod enc Tryz.prog W 0 (fun _ => true) true fuel 22 [.slice A n c] = some (d, ps)) (hwd : ∀ q ∈ d.weights Tryz.prog 22, q ≤ reachBytes) : ∃ xs : List Tx, Tv W (.slice A n c) xs 17592186043904 := by
 rcases open_slice Tryz.underlying22 hf' with ⟨e, _⟩ | ⟨ad, len, cap, m, k, D, Pl, e, hb, hl, hm, hmm, hx, hel⟩
 ·simp at e
  obtain ⟨rfl, rfl, rfl⟩ := e
  exact ⟨[], Lr.nil _ _ _, fun x hx => by cases hx⟩
 ·simp at e
  obtain ⟨rfl, rfl, rfl⟩ := e
  have hlm : n ≤ m := by rw [hmm]; simp; omega
  have e4 : Tryz.prog.cellsOf 59 = 4 := by kernel_rfl
  rw [e4] at hel
  have hdx : d = .slice ((List.range n).map D) ((List.range (m - n)).map fun j => D (n + j)) := congrArg Prod.fst hx
  have hw : ∀ i, i < n → ∀ q ∈ (D i).weights Tryz.prog 59, q ≤ reachBytes := fun i hi q hq => by
   exact hwd q (by
    rw [hdx]
    simp only [DataW.weights, Tryz.underlying22, List.mem_cons, List.mem_append]
    exact .inr (.inl (weightsAll_mem (List.mem_map.2 ⟨i, List.mem_range.2 hi, rfl⟩) hq)))
  obtain ⟨X, hX⟩ := choose_lt (α := Tx) (p := fun i x => (∀ q u, (et x)[q]? = some u → W.cell? (ad.add (i * 4 + q)) = some u) ∧ Ra W (rx x.x) x.x.r 17592186043904) (n := n) (fun i hi => by
   obtain ⟨cs', h1, h2⟩ := hel i (by omega)
   obtain ⟨x, di, dw, du, rfl, hy, l1, l2, hr⟩ := open_tcells h2
   obtain ⟨_, _, hc⟩ := World.cells?_some h1
   have hy' : D i = .agg [di, .agg [.agg [.lit (.bool x.x.s), dw], du]] := hy
   have w1 := dlen_le l1 (fun q hq => hw i hi q (by
    rw [hy']
    simp only [DataW.weights, DataW.weightsEach, Tryz.underlying59, Tryz.underlying27, Tryz.underlying25, List.map_cons, List.map_nil, List.mem_append]
    simp [hq]))
   have w2 := dlen_le l2 (fun q hq => hw i hi q (by
    rw [hy']
    simp only [DataW.weights, DataW.weightsEach, Tryz.underlying59, Tryz.underlying27, Tryz.underlying25, List.map_cons, List.map_nil, List.mem_append]
    simp [hq]))
   refine ⟨x, fun q u hq => ?_, hr _ w1 w2⟩
   have hq4 : q < 4 := by have := (List.getElem?_eq_some_iff.1 hq).1; rwa [et_len] at this
   have h3 := hc q hq4
   rw [hq] at h3
   rw [← h3]
   congr 1
   obtain ⟨b, off, sp⟩ := ad
   unfold Addr.add
   by_cases hi0 : i * 4 = 0
   ·by_cases hq0 : q = 0
    ·simp [hi0, hq0]
    ·simp [hi0, hq0]
   ·by_cases hq0 : q = 0
    ·simp [hi0, hq0]
    ·have : i * 4 + q ≠ 0 := by omega
     simp [hi0, hq0]
     try omega)
  refine ⟨(List.range n).map X, ⟨some ad, c, by simp, by simpa using hl, hm, fun hn => ?_⟩, fun x hx => ?_⟩
  ·simp at hn
   obtain ⟨h1, _⟩ := hX 0 hn
   have h2 := h1 0 _ rfl
   obtain ⟨b, off, spot⟩ := ad
   have hs : spot = none := by simpa [Addr.add] using World.cell?_spot h2
   subst hs
   refine ⟨b, off, rfl, ?_, fun i x hi q u hq => ?_⟩
   ·unfold World.cell? at h2
    split at h2
    ·rename_i hb2
     exact (Array.getElem?_eq_some_iff.1 hb2).1
    ·cases h2
   ·have hin : i < n := by have := (List.getElem?_eq_some_iff.1 hi).1; simpa using this
    have hxe : x = X i := by
     rw [List.getElem?_map, List.getElem?_range hin] at hi
     simpa using hi.symm
    subst hxe
    have h5 := (hX i hin).1 q u hq
    rw [add_addr] at h5
    rwa [Nat.add_assoc]
  ·obtain ⟨i, hi, rfl⟩ := List.mem_map.1 hx
   exact (hX i (List.mem_range.1 hi)).2
theorem open_kcells {H : Type} {enc : TypeId × Value → H} {W : World} {fuel : Nat} {cs : List Value} {y : DataW H × List MemPlace}
  (hf : DataW.trod enc Tryz.prog W 0 (fun _ => true) true fuel 29 cs = some y) (hwd : ∀ q ∈ y.1.weights Tryz.prog 29, q ≤ reachBytes) : ∃ k : Kx, cs = ek k ∧ Kv W k 17592186043904 := by
 obtain ⟨y0, y1, y2, k, hx, hlen, h0, h1, h2⟩ := trod_struct3 Tryz.underlying29 hf
 rw [show Tryz.prog.cellsOf 29 = 5 by kernel_rfl] at hlen
 obtain ⟨c0, c1, c2, c3, c4, rfl⟩ : ∃ c0 c1 c2 c3 c4, cs = [c0, c1, c2, c3, c4] := by
  match cs, hlen with
  | [c0, c1, c2, c3, c4], _ => exact ⟨_, _, _, _, _, rfl⟩
 have e3 : Tryz.prog.cellsOf 27 = 3 := by kernel_rfl
 have e1 : Tryz.prog.cellsOf 3 = 1 := by kernel_rfl
 have e2 : Tryz.prog.cellsOf 22 = 1 := by kernel_rfl
 have h0' : DataW.trod enc Tryz.prog W 0 (fun _ => true) true k 3 [c0] = some y0 := by simpa [e1] using h0
 have h1' : DataW.trod enc Tryz.prog W 0 (fun _ => true) true k 22 [c1] = some y1 := by simpa [e2] using h1
 have h2' : DataW.trod enc Tryz.prog W 0 (fun _ => true) true k 27 [c2, c3, c4] = some y2 := by simpa [e3] using h2
 obtain ⟨x, dw, du, e4, e5, l1, l2, hr⟩ := open_rcells h2'
 have hi : ∃ z : Int, c0 = .int .i64 z := by
  cases k with
  | zero => simp [DataW.trod] at h0'
  | succ k =>
   unfold DataW.trod at h0'
   rw [Tryz.underlying3] at h0'
   split at h0' <;> simp_all
 obtain ⟨z, rfl⟩ := hi
 obtain ⟨A, n, c, hc⟩ := slice_form Tryz.underlying22 h1'
 obtain rfl : c1 = .slice A n c := by simpa using hc
 have hy : y.1 = .agg [y0.1, y1.1, y2.1] := by rw [hx]
 have w1 : ∀ q ∈ y1.1.weights Tryz.prog 22, q ≤ reachBytes := fun q hq => hwd q (by
  rw [hy]
  simp only [DataW.weights, DataW.weightsEach, Tryz.underlying29, List.map_cons, List.map_nil, List.mem_append]
  simp [hq])
 have w2 : ∀ q ∈ y2.1.weights Tryz.prog 27, q ≤ reachBytes := fun q hq => hwd q (by
  rw [hy]
  simp only [DataW.weights, DataW.weightsEach, Tryz.underlying29, List.map_cons, List.map_nil, List.mem_append]
  simp [hq])
 obtain ⟨xs, hxs⟩ := open_tcs (d := y1.1) (ps := y1.2) h1' w1
 rw [e5] at w2
 have q1 := dlen_le l1 (fun q hq => w2 q (by
  simp only [DataW.weights, DataW.weightsEach, Tryz.underlying27, Tryz.underlying25, List.map_cons, List.map_nil, List.mem_append]
  simp [hq]))
 have q2 := dlen_le l2 (fun q hq => w2 q (by
  simp only [DataW.weights, DataW.weightsEach, Tryz.underlying27, Tryz.underlying25, List.map_cons, List.map_nil, List.mem_append]
  simp [hq]))
 refine ⟨⟨z, (A, n, c), xs, x⟩, ?_, hxs, hr _ q1 q2⟩
 simp [er] at e4
 obtain ⟨rfl, rfl, rfl⟩ := e4
 rfl
theorem open_con {H : Type} {enc : TypeId × Value → H} {W : World} {r : Reach} {b0 : Nat} {v : Value} {d : DataW H} {ps : List MemPlace}
  (hv : Value.okWide Tryz.prog W r b0 29 v) (h : DataW.Trod enc Tryz.prog W 0 (fun _ => true) true 29 v d ps)
  {ts : List TypeId} {ds : List (DataW H)} (hS : (DataW.weightsEach Tryz.prog ts ds).all (· ≤ reachBytes) = true) {j : Nat} (ht : ts[j]? = some 29) (hd : ds[j]? = some d) : ∃ k : Kx, v = kx k ∧ Kv W k 17592186043904 := by
 obtain ⟨cs, rfl, hsz⟩ := okWide_struct Tryz.underlying29 hv
 obtain ⟨fuel, hf⟩ := h
 have hf' : DataW.trod enc Tryz.prog W 0 (fun _ => true) true fuel 29 cs.toList = some (d, ps) := by simpa [Value.cells] using hf
 obtain ⟨k, hk, hv2⟩ := open_kcells hf' (fun q hq => by
  have := List.all_eq_true.1 hS q (DataW.weights_mem_each ht hd q hq)
  simpa using this)
 refine ⟨k, ?_, hv2⟩
 have e : cs = (ek k).toArray := by rw [← hk]
 rw [e]
 rfl
theorem open_rats {H : Type} {enc : TypeId × Value → H} {W : World} {r : Reach} {b0 : Nat} {v : Value} {d : DataW H} {ps : List MemPlace}
  (hv : Value.okWide Tryz.prog W r b0 30 v) (h : DataW.Trod enc Tryz.prog W 0 (fun _ => true) true 30 v d ps)
  {ts : List TypeId} {ds : List (DataW H)} (hS : (DataW.weightsEach Tryz.prog ts ds).all (· ≤ reachBytes) = true) {j : Nat} (ht : ts[j]? = some 30) (hd : ds[j]? = some d) : ∃ xs : List Rx, Fv W v xs 17592186043904 := by
 obtain ⟨A, n, c, rfl⟩ := okWide_slice Tryz.underlying30 hv
 obtain ⟨fuel, hf⟩ := h
 have hf' : DataW.trod enc Tryz.prog W 0 (fun _ => true) true fuel 30 [.slice A n c] = some (d, ps) := by simpa [Value.cells] using hf
 rcases open_slice Tryz.underlying30 hf' with ⟨e, _⟩ | ⟨ad, len, cap, m, k, D, Pl, e, hb, hl, hm, hmm, hx, hel⟩
 ·simp at e
  obtain ⟨rfl, rfl, rfl⟩ := e
  exact ⟨[], Lr.nil _ _ _, fun x hx => by cases hx⟩
 ·simp at e
  obtain ⟨rfl, rfl, rfl⟩ := e
  have hlm : n ≤ m := by rw [hmm]; simp; omega
  have e4 : Tryz.prog.cellsOf 27 = 3 := by kernel_rfl
  rw [e4] at hel
  have hdx : d = .slice ((List.range n).map D) ((List.range (m - n)).map fun j => D (n + j)) := congrArg Prod.fst hx
  have hw : ∀ i, i < n → ∀ q ∈ (D i).weights Tryz.prog 27, q ≤ reachBytes := fun i hi q hq => by
   have := List.all_eq_true.1 hS q (DataW.weights_mem_each ht hd q (by
    rw [hdx]
    simp only [DataW.weights, Tryz.underlying30, List.mem_cons, List.mem_append]
    exact .inr (.inl (weightsAll_mem (List.mem_map.2 ⟨i, List.mem_range.2 hi, rfl⟩) hq))))
   simpa using this
  obtain ⟨X, hX⟩ := choose_lt (α := Rx) (p := fun i x => (∀ q u, (er x)[q]? = some u → W.cell? (ad.add (i * 3 + q)) = some u) ∧ Ra W (rx x) x.r 17592186043904) (n := n) (fun i hi => by
   obtain ⟨cs', h1, h2⟩ := hel i (by omega)
   obtain ⟨x, dw, du, rfl, hy, l1, l2, hr⟩ := open_rcells h2
   obtain ⟨_, _, hc⟩ := World.cells?_some h1
   have hy' : D i = .agg [.agg [.lit (.bool x.s), dw], du] := hy
   have w1 := dlen_le l1 (fun q hq => hw i hi q (by
    rw [hy']
    simp only [DataW.weights, DataW.weightsEach, Tryz.underlying27, Tryz.underlying25, List.map_cons, List.map_nil, List.mem_append]
    simp [hq]))
   have w2 := dlen_le l2 (fun q hq => hw i hi q (by
    rw [hy']
    simp only [DataW.weights, DataW.weightsEach, Tryz.underlying27, Tryz.underlying25, List.map_cons, List.map_nil, List.mem_append]
    simp [hq]))
   refine ⟨x, fun q u hq => ?_, hr _ w1 w2⟩
   have hq4 : q < 3 := by have := (List.getElem?_eq_some_iff.1 hq).1; rwa [er_len] at this
   have h3 := hc q hq4
   rw [hq] at h3
   rw [← h3]
   congr 1
   obtain ⟨b, off, sp⟩ := ad
   unfold Addr.add
   by_cases hi0 : i * 3 = 0
   ·by_cases hq0 : q = 0
    ·simp [hi0, hq0]
    ·simp [hi0, hq0]
   ·by_cases hq0 : q = 0
    ·simp [hi0, hq0]
    ·have : i * 3 + q ≠ 0 := by omega
     simp [hi0, hq0]
     try omega)
  refine ⟨(List.range n).map X, ⟨some ad, c, by simp, by simpa using hl, hm, fun hn => ?_⟩, fun x hx => ?_⟩
  ·simp at hn
   obtain ⟨h1, _⟩ := hX 0 hn
   have h2 := h1 0 _ rfl
   obtain ⟨b, off, spot⟩ := ad
   have hs : spot = none := by simpa [Addr.add] using World.cell?_spot h2
   subst hs
   refine ⟨b, off, rfl, ?_, fun i x hi q u hq => ?_⟩
   ·unfold World.cell? at h2
    split at h2
    ·rename_i hb2
     exact (Array.getElem?_eq_some_iff.1 hb2).1
    ·cases h2
   ·have hin : i < n := by have := (List.getElem?_eq_some_iff.1 hi).1; simpa using this
    have hxe : x = X i := by
     rw [List.getElem?_map, List.getElem?_range hin] at hi
     simpa using hi.symm
    subst hxe
    have h5 := (hX i hin).1 q u hq
    rw [add_addr] at h5
    rwa [Nat.add_assoc]
  ·obtain ⟨i, hi, rfl⟩ := List.mem_map.1 hx
   exact (hX i (List.mem_range.1 hi)).2
end Go.Proofs.YtofmhfbbedalbaaGreat
