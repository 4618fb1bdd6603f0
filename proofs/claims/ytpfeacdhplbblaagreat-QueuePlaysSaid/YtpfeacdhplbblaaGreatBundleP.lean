/-
  Shared texts, one behind the other: Open, OpenZ, OpenR, OpenV, OpenK.
-/
import Derived.Test.YtpfeacdhplbblaaGreatFrameK
import Derived.Test.YtpfeacdhplbblaaGreatBundleA
import Derived.ChangeSlices
import Derived.SizedLaws
import Derived.Test.YtpfeacdhplbblaaGreatBundleD
import Derived.ChangeSame
import Derived.Test.YtpfeacdhplbblaaGreatBundleF
import Derived.Test.YtpfeacdhplbblaaGreatTv
import Derived.Deep.Slices
import Derived.Test.YtpfeacdhplbblaaGreatBundleM
import Derived.Deep.Strs
import Derived.Deep.Grids

namespace Go.Proofs.YtpfeacdhplbblaaGreat
open Go.ChangeShapes Go.WideShapes Go.ChangeAt Go.RowKit Go.Proofs.YtpfeacdhplbblaaGreat.Num
set_option linter.unusedVariables false
theorem getD_toNat (zs : List Int) (i : Nat) : ((zs.map Int.toNat).getD i 0) = (zs.getD i 0).toNat := by
  simp only [List.getD_eq_getElem?_getD, List.getElem?_map]
  cases zs[i]? <;> simp
def DLen {H : Type} (d : DataW H) (n : Nat) : Prop := n = 0 ∨ ∃ elems spare, d = .slice elems spare ∧ elems.length = n
theorem open_words {H : Type} {enc : TypeId × Value → H} {W : World} {t : TypeId} {A : Option Addr} {n c : Nat} {d : DataW H} {ps : List MemPlace}
    (ht : Tryz.prog.underlying t = some (.slice 62)) (h : DataW.Trod enc Tryz.prog W 0 (fun _ => true) true t (.slice A n c) d ps) :
    ∃ xs, Rd .u64 W W.heap.size A n xs ∧ Dg Q xs ∧ n ≤ c ∧ c ≤ maxLen ∧ DLen d n := by
  obtain ⟨fuel, hf⟩ := h
  rcases open_ints ht Tryz.underlying62 (by kernel_rfl) hf with ⟨hcs, hx⟩ | ⟨x, l, c', zs, hcs, _, hl, hm, hz, hx, hcell, hwz⟩
  · simp [Value.cells] at hcs
    obtain ⟨rfl, rfl, rfl⟩ := hcs
    exact ⟨[], Rd.nil, Dg.nil, Nat.le_refl _, Nat.zero_le _, .inl rfl⟩
  · simp [Value.cells] at hcs
    obtain ⟨rfl, rfl, rfl⟩ := hcs
    have hzn : zs.length = c := by simpa using hz
    have hlen : ((zs.take n).map Int.toNat).length = n := by simp; omega
    have hw : ∀ z ∈ zs, 0 ≤ z ∧ z < 18446744073709551616 := fun z hz' => by
      have := hwz z hz'
      simp [Lit.wf, IntKind.min, IntKind.max, IntKind.signed, IntKind.bits] at this
      omega
    refine ⟨(zs.take n).map Int.toNat, ⟨hlen, fun hn => ?_⟩, ?_, hl, hm, ?_⟩
    · have hc0 := hcell 0 (by omega)
      obtain ⟨b, off, spot⟩ := x
      have hs : spot = none := by simpa [Addr.add] using World.cell?_spot hc0
      subst hs
      have hb : b < W.heap.size := by
        unfold World.cell? at hc0
        split at hc0
        · rename_i hb
          exact (Array.getElem?_eq_some_iff.1 hb).1
        · cases hc0
      refine ⟨b, off, rfl, hb, fun j hj => ?_⟩
      have hc1 := hcell j (by omega)
      have hg : zs.getD j 0 ∈ zs := by
        rw [List.getD_eq_getElem?_getD, List.getElem?_eq_getElem (by omega)]
        simp
      have hnn := hw _ hg
      rw [getD_toNat]
      have ht' : (zs.take n).getD j 0 = zs.getD j 0 := by
        simp only [List.getD_eq_getElem?_getD]
        rw [List.getElem?_take_of_lt hj]
      rw [ht', Int.toNat_of_nonneg hnn.1]
      have ea : (⟨b, off, none⟩ : Addr).add j = ⟨b, off + j, none⟩ := by
        unfold Addr.add
        split
        · rename_i h0
          subst h0
          rfl
        · rfl
      rw [ea] at hc1
      exact hc1
    · intro y hy
      simp only [List.mem_map] at hy
      obtain ⟨z, hz', rfl⟩ := hy
      have := hw z (List.mem_of_mem_take hz')
      have hQ : Q = 18446744073709551616 := by decide +kernel
      omega
    · have he : d = .slice (lits .u64 (zs.take n)) (lits .u64 (zs.drop n)) := congrArg Prod.fst hx
      have hl2 : (lits (H := H) .u64 (zs.take n)).length = n := by simp [lits]; omega
      exact .inr ⟨_, _, he, hl2⟩
end Go.Proofs.YtpfeacdhplbblaaGreat

namespace Go.Proofs.YtpfeacdhplbblaaGreat
open Go.ChangeShapes Go.WideShapes Go.ChangeAt Go.RowKit Go.Joins Go.Proofs.YtpfeacdhplbblaaGreat.Num
set_option linter.unusedVariables false
set_option maxRecDepth 100000

end Go.Proofs.YtpfeacdhplbblaaGreat

namespace Go.Proofs.YtpfeacdhplbblaaGreat
open Go.ChangeShapes Go.WideShapes Go.ChangeAt Go.RowKit Go.Joins Go.Deep Go.Proofs.YtpfeacdhplbblaaGreat.Num
set_option linter.unusedVariables false
set_option maxRecDepth 100000
theorem weightsAll_mem {H : Type} {P : Program} {e : TypeId} {d : DataW H} {n : Nat} : ∀ {l : List (DataW H)}, d ∈ l → n ∈ d.weights P e → n ∈ DataW.weightsAll P e l
  | x :: r, hd, hn => by
    simp only [DataW.weightsAll, List.mem_append]
    rcases List.mem_cons.1 hd with rfl | hd
    · exact .inl hn
    · exact .inr (weightsAll_mem hd hn)
theorem open_rcells {H : Type} {enc : TypeId × Value → H} {W : World} {fuel : Nat} {cs : List Value} {y : DataW H × List MemPlace}
    (hf : DataW.trod enc Tryz.prog W 0 (fun _ => true) true fuel 36 cs = some y) :
    ∃ (x : Rx) (dw du : DataW H), cs = er x ∧ y.1 = .agg [.agg [.lit (.bool x.s), dw], du] ∧ DLen dw x.u.2.1 ∧ DLen du x.t.2.1 ∧ ∀ L, x.u.2.1 ≤ L → x.t.2.1 ≤ L → Ra W (rx x) x.r L := by
  obtain ⟨y0, y1, k, hx, hlen, h0, h1⟩ := trod_struct2 Tryz.underlying36 hf
  rw [show Tryz.prog.cellsOf 36 = 3 by kernel_rfl] at hlen
  obtain ⟨c0, c1, c2, rfl⟩ : ∃ c0 c1 c2, cs = [c0, c1, c2] := by
    match cs, hlen with
    | [c0, c1, c2], _ => exact ⟨_, _, _, rfl⟩
  have e2 : Tryz.prog.cellsOf 34 = 2 := by kernel_rfl
  have e1 : Tryz.prog.cellsOf 32 = 1 := by kernel_rfl
  have h0' : DataW.trod enc Tryz.prog W 0 (fun _ => true) true k 34 [c0, c1] = some y0 := by simpa [e2] using h0
  have h1' : DataW.trod enc Tryz.prog W 0 (fun _ => true) true k 32 [c2] = some y1 := by simpa [e1] using h1
  obtain ⟨z0, z1, k2, hz, _, g0, g1⟩ := trod_struct2 Tryz.underlying34 h0'
  have b1 : Tryz.prog.cellsOf 4 = 1 := by kernel_rfl
  have g0' : DataW.trod enc Tryz.prog W 0 (fun _ => true) true k2 4 [c0] = some z0 := by simpa [b1] using g0
  have g1' : DataW.trod enc Tryz.prog W 0 (fun _ => true) true k2 32 [c1] = some z1 := by simpa [e1] using g1
  obtain ⟨s, hs, rfl⟩ := DataW.trod_bool Tryz.underlying4 g0'
  obtain ⟨A, n, c, hc⟩ := slice_form Tryz.underlying32 g1'
  obtain ⟨D, m, f, hd⟩ := slice_form Tryz.underlying32 h1'
  obtain rfl : c0 = .bool s := by simpa using hs
  obtain rfl : c1 = .slice A n c := by simpa using hc
  obtain rfl : c2 = .slice D m f := by simpa using hd
  obtain ⟨xs, hr, dx, hnc, hcm, hl⟩ := open_words (d := z1.1) (ps := z1.2) Tryz.underlying32 ⟨k2, by simpa [Value.cells] using g1'⟩
  obtain ⟨ys, hr', dx', hnc', hcm', hl'⟩ := open_words (d := y1.1) (ps := y1.2) Tryz.underlying32 ⟨k, by simpa [Value.cells] using h1'⟩
  refine ⟨⟨s, (A, n, c), (D, m, f), mkRat (zi s (vl Q xs)) (if vl Q ys = 0 then 1 else vl Q ys)⟩, z1.1, y1.1, rfl, ?_, hl, hl', fun L h1 h2 => ?_⟩
  · rw [hx, hz]
  · exact ⟨s, _, _, vl Q xs, vl Q ys, rfl, ⟨A, n, c, xs, rfl, hr, dx, hnc, hcm, rfl, h1⟩, ⟨D, m, f, ys, rfl, hr', dx', hnc', hcm', rfl, h2⟩, rfl⟩
theorem dlen_le {H : Type} {d : DataW H} {n : Nat} (h : DLen d n) (hw : ∀ m ∈ d.weights Tryz.prog 32, m ≤ reachBytes) : n ≤ 17592186043904 := by
  rcases h with rfl | ⟨elems, spare, rfl, rfl⟩
  · omega
  · have h1 := hw ((elems.length + spare.length) * Tryz.prog.bytesOf 62) (by simp [DataW.weights, Tryz.underlying32])
    have h2 : Tryz.prog.bytesOf 62 = 8 := by kernel_rfl
    have h3 : reachBytes = 140737488351232 := by decide
    rw [h2, h3] at h1
    omega
theorem add_addr (b off j : Nat) : (⟨b, off, none⟩ : Addr).add j = ⟨b, off + j, none⟩ := by
  unfold Addr.add
  by_cases h : j = 0
  · subst h; simp
  · simp [h]

end Go.Proofs.YtpfeacdhplbblaaGreat
