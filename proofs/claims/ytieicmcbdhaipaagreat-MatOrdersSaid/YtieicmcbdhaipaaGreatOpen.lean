/-
  An argument that is a list of words, opened: what a call reads of it; and what the bound of the second form gives.
-/
import Derived.Test.YtieicmcbdhaipaaGreatFrameK
import Derived.Test.YtieicmcbdhaipaaGreatBundleA
import Derived.ChangeSlices
import Derived.SizedLaws


namespace Go.Proofs.YtieicmcbdhaipaaGreat
open Go.ChangeShapes Go.WideShapes Go.ChangeAt Go.RowKit Go.Proofs.YtieicmcbdhaipaaGreat.Num
set_option linter.unusedVariables false

theorem bulk_one {H : Type} (d : DataW H) : 1 ≤ Rows.uptoBulk d := by
  cases d with
  | lit l => cases l <;> simp [Rows.uptoBulk]
  | _ => simp [Rows.uptoBulk]
theorem bulk_len {H : Type} : ∀ l : List (DataW H), l.length ≤ Rows.uptoBulkAll l
  | [] => by simp [Rows.uptoBulkAll]
  | x :: r => by
    have h1 := bulk_one x
    have h2 := bulk_len r
    simp only [Rows.uptoBulkAll, List.length_cons]
    omega
theorem bulk_slice {H : Type} (elems spare : List (DataW H)) : elems.length ≤ Rows.uptoBulk (.slice elems spare) := by
  have h1 := bulk_len elems
  simp only [Rows.uptoBulk]
  omega
theorem bulk_of {H : Type} {l : List (DataW H)} (h : Rows.uptoSmall H l = true) : Rows.uptoBulkAll l ≤ 1048576 := by
  simpa [Rows.uptoSmall] using h

theorem getD_toNat (zs : List Int) (i : Nat) : ((zs.map Int.toNat).getD i 0) = (zs.getD i 0).toNat := by
  simp only [List.getD_eq_getElem?_getD, List.getElem?_map]
  cases zs[i]? <;> simp

/-- A datum read of a slice of n elements. -/
def DLen {H : Type} (d : DataW H) (n : Nat) : Prop := n = 0 ∨ ∃ elems spare, d = .slice elems spare ∧ elems.length = n
theorem DLen.bulk {H : Type} {d : DataW H} {n : Nat} (h : DLen d n) : n ≤ Rows.uptoBulk d := by
  rcases h with rfl | ⟨elems, spare, rfl, rfl⟩
  · exact Nat.zero_le _
  · exact bulk_slice elems spare
theorem DLen.reach {H : Type} {d : DataW H} {n : Nat} (h : DLen d n) {ts : List TypeId} {ds : List (DataW H)} (hS : (DataW.weightsEach Tryz.prog ts ds).all (· ≤ reachBytes) = true) {j : Nat} {t : TypeId}
    (ht : ts[j]? = some t) (hd : ds[j]? = some d) (hu : Tryz.prog.underlying t = some (.slice 124)) : n ≤ 17592186043904 := by
  rcases h with rfl | ⟨elems, spare, rfl, rfl⟩
  · omega
  · have h1 := sized_slice hS ht hd hu
    have h2 : Tryz.prog.bytesOf 124 = 8 := by kernel_rfl
    have h3 : reachBytes = 140737488351232 := by decide
    rw [h2, h3] at h1
    omega

theorem open_words {H : Type} {enc : TypeId × Value → H} {W : World} {t : TypeId} {A : Option Addr} {n c : Nat} {d : DataW H} {ps : List MemPlace}
    (ht : Tryz.prog.underlying t = some (.slice 124)) (h : DataW.Trod enc Tryz.prog W 0 (fun _ => true) true t (.slice A n c) d ps) :
    ∃ xs, Rd .u64 W W.heap.size A n xs ∧ Dg Q xs ∧ n ≤ c ∧ c ≤ maxLen ∧ DLen d n := by
  obtain ⟨fuel, hf⟩ := h
  rcases open_ints ht Tryz.underlying124 (by kernel_rfl) hf with ⟨hcs, hx⟩ | ⟨x, l, c', zs, hcs, _, hl, hm, hz, hx, hcell, hwz⟩
  · simp [Value.cells] at hcs
    obtain ⟨rfl, rfl, rfl⟩ := hcs
    exact ⟨[], Rd.nil, Dg.nil, Nat.le_refl _, Nat.zero_le _, .inl rfl⟩
  · simp [Value.cells] at hcs
    obtain ⟨rfl, rfl, rfl⟩ := hcs
    have hzn : zs.length = c := by simpa using hz
    have hlen : ((zs.take n).map Int.toNat).length = n := by simp; omega
    have hw : ∀ z ∈ zs, 0 ≤ z ∧ z < 18446744073709551616 := fun z hz' => by
      have := hwz z hz'
      simp [Lit.wf, IntKind.min, IntKind.max, IntKind.signed, IntKind.bits] at this
      omega
    refine ⟨(zs.take n).map Int.toNat, ⟨hlen, fun hn => ?_⟩, ?_, hl, hm, ?_⟩
    · have hc0 := hcell 0 (by omega)
      obtain ⟨b, off, spot⟩ := x
      have hs : spot = none := by simpa [Addr.add] using World.cell?_spot hc0
      subst hs
      have hb : b < W.heap.size := by
        unfold World.cell? at hc0
        split at hc0
        · rename_i hb
          exact (Array.getElem?_eq_some_iff.1 hb).1
        · cases hc0
      refine ⟨b, off, rfl, hb, fun j hj => ?_⟩
      have hc1 := hcell j (by omega)
      have hg : zs.getD j 0 ∈ zs := by
        rw [List.getD_eq_getElem?_getD, List.getElem?_eq_getElem (by omega)]
        simp
      have hnn := hw _ hg
      rw [getD_toNat]
      have ht' : (zs.take n).getD j 0 = zs.getD j 0 := by
        simp only [List.getD_eq_getElem?_getD]
        rw [List.getElem?_take_of_lt hj]
      rw [ht', Int.toNat_of_nonneg hnn.1]
      have ea : (⟨b, off, none⟩ : Addr).add j = ⟨b, off + j, none⟩ := by
        unfold Addr.add
        split
        · rename_i h0
          subst h0
          rfl
        · rfl
      rw [ea] at hc1
      exact hc1
    · intro y hy
      simp only [List.mem_map] at hy
      obtain ⟨z, hz', rfl⟩ := hy
      have := hw z (List.mem_of_mem_take hz')
      have hQ : Q = 18446744073709551616 := by decide +kernel
      omega
    · have he : d = .slice (lits .u64 (zs.take n)) (lits .u64 (zs.drop n)) := congrArg Prod.fst hx
      have hl2 : (lits (H := H) .u64 (zs.take n)).length = n := by simp [lits]; omega
      exact .inr ⟨_, _, he, hl2⟩
end Go.Proofs.YtieicmcbdhaipaaGreat
