/-
  An argument that is a whole number, opened: what a call reads of it.
-/
import Derived.Test.YtieicmcbdhaipaaGreatOpen
import Derived.Test.YtieicmcbdhaipaaGreatBundleD
import Derived.ChangeSame


namespace Go.Proofs.YtieicmcbdhaipaaGreat
open Go.ChangeShapes Go.WideShapes Go.ChangeAt Go.RowKit Go.Joins Go.Proofs.YtieicmcbdhaipaaGreat.Num
set_option linter.unusedVariables false
set_option maxRecDepth 100000

theorem open_zint {H : Type} {enc : TypeId × Value → H} {W : World} {r : Reach} {b0 : Nat} {v : Value} {d : DataW H} {ps : List MemPlace}
    (hv : Value.okWide Tryz.prog W r b0 24 v) (h : DataW.Trod enc Tryz.prog W 0 (fun _ => true) true 24 v d ps) :
    ∃ (s : Bool) (A : Option Addr) (n c : Nat) (xs : List Nat) (dw : DataW H), v = zv s (.slice A n c) ∧ d = .agg [.lit (.bool s), dw] ∧ Rd .u64 W W.heap.size A n xs ∧ Dg Q xs ∧ n ≤ c ∧ c ≤ maxLen ∧ DLen dw n := by
  obtain ⟨v0, v1, y0, y1, m, rfl, rfl, hp, h0, h1⟩ := open_agg2 Tryz.underlying24 (by kernel_rfl) (by kernel_rfl) hv h
  obtain ⟨s, hs, rfl⟩ := DataW.trod_bool Tryz.underlying4 h0
  obtain ⟨A, n, c, hc⟩ := slice_form Tryz.underlying22 h1
  obtain rfl : v0 = .bool s := by simpa using hs
  obtain rfl : v1 = .slice A n c := by simpa using hc
  obtain ⟨xs, hr, dx, hnc, hcm, hl⟩ := open_words (d := y1.1) (ps := y1.2) Tryz.underlying22 ⟨m, by simpa [Value.cells] using h1⟩
  exact ⟨s, A, n, c, xs, y1.1, rfl, rfl, hr, dx, hnc, hcm, hl⟩

theorem zreach {H : Type} {s : Bool} {dw : DataW H} {n : Nat} (h : DLen dw n) {ts : List TypeId} {ds : List (DataW H)} (hS : (DataW.weightsEach Tryz.prog ts ds).all (· ≤ reachBytes) = true) {j : Nat}
    (ht : ts[j]? = some 24) (hd : ds[j]? = some (.agg [.lit (.bool s), dw])) : n ≤ 17592186043904 := by
  rcases h with rfl | ⟨elems, spare, rfl, rfl⟩
  · omega
  · have h1 := List.all_eq_true.1 hS _ (DataW.weights_mem_each ht hd ((elems.length + spare.length) * Tryz.prog.bytesOf 124) (by
      simp [DataW.weights, DataW.weightsEach, Tryz.underlying24, Tryz.underlying22]))
    have h2 : Tryz.prog.bytesOf 124 = 8 := by kernel_rfl
    have h3 : reachBytes = 140737488351232 := by decide
    rw [h2, h3] at h1
    simp at h1
    omega
theorem zbulk {H : Type} {s : Bool} {dw : DataW H} {n : Nat} (h : DLen dw n) : n ≤ Rows.uptoBulk (DataW.agg [.lit (.bool s), dw]) := by
  have := h.bulk
  simp only [Rows.uptoBulk, Rows.uptoBulkAll]
  omega
end Go.Proofs.YtieicmcbdhaipaaGreat
