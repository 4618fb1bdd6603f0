/-
  An argument that is a fraction, opened: what a call reads of it.
-/
import Derived.Test.YtieicmcbdhaipaaGreatOpenZ
import Derived.Test.YtieicmcbdhaipaaGreatBundleF


namespace Go.Proofs.YtieicmcbdhaipaaGreat
open Go.ChangeShapes Go.WideShapes Go.ChangeAt Go.RowKit Go.Joins Go.Proofs.YtieicmcbdhaipaaGreat.Num
set_option linter.unusedVariables false
set_option maxRecDepth 100000

theorem open_rat {H : Type} {enc : TypeId × Value → H} {W : World} {r : Reach} {b0 : Nat} {v : Value} {d : DataW H} {ps : List MemPlace}
    (hv : Value.okWide Tryz.prog W r b0 26 v) (h : DataW.Trod enc Tryz.prog W 0 (fun _ => true) true 26 v d ps) :
    ∃ (s : Bool) (A : Option Addr) (n c : Nat) (xs : List Nat) (dw : DataW H) (D : Option Addr) (m f : Nat) (ys : List Nat) (du : DataW H), v = rv s (.slice A n c) (.slice D m f) ∧ d = .agg [.agg [.lit (.bool s), dw], du] ∧
      Rd .u64 W W.heap.size A n xs ∧ Dg Q xs ∧ n ≤ c ∧ c ≤ maxLen ∧ DLen dw n ∧ Rd .u64 W W.heap.size D m ys ∧ Dg Q ys ∧ m ≤ f ∧ f ≤ maxLen ∧ DLen du m := by
  obtain ⟨cs, rfl, hsz⟩ := okWide_struct Tryz.underlying26 hv
  obtain ⟨c0, c1, c2, rfl⟩ := array3 (hsz.trans (show Tryz.prog.cellsOf 26 = 3 by kernel_rfl))
  obtain ⟨fuel, hf⟩ := h
  obtain ⟨y0, y1, k, hx, _, h0, h1⟩ := trod_struct2 Tryz.underlying26 hf
  have e2 : Tryz.prog.cellsOf 24 = 2 := by kernel_rfl
  have e1 : Tryz.prog.cellsOf 22 = 1 := by kernel_rfl
  have h0' : DataW.trod enc Tryz.prog W 0 (fun _ => true) true k 24 [c0, c1] = some y0 := by simpa [Value.cells, e2] using h0
  have h1' : DataW.trod enc Tryz.prog W 0 (fun _ => true) true k 22 [c2] = some y1 := by simpa [Value.cells, e1] using h1
  obtain ⟨z0, z1, k2, hz, _, g0, g1⟩ := trod_struct2 Tryz.underlying24 h0'
  have b1 : Tryz.prog.cellsOf 4 = 1 := by kernel_rfl
  have g0' : DataW.trod enc Tryz.prog W 0 (fun _ => true) true k2 4 [c0] = some z0 := by simpa [Value.cells, b1] using g0
  have g1' : DataW.trod enc Tryz.prog W 0 (fun _ => true) true k2 22 [c1] = some z1 := by simpa [Value.cells, e1] using g1
  simp only [Prod.mk.injEq] at hx
  obtain ⟨s, hs, rfl⟩ := DataW.trod_bool Tryz.underlying4 g0'
  obtain ⟨A, n, c, hc⟩ := slice_form Tryz.underlying22 g1'
  obtain ⟨D, m, f, hd⟩ := slice_form Tryz.underlying22 h1'
  obtain rfl : c0 = .bool s := by simpa using hs
  obtain rfl : c1 = .slice A n c := by simpa using hc
  obtain rfl : c2 = .slice D m f := by simpa using hd
  obtain ⟨xs, hr, dx, hnc, hcm, hl⟩ := open_words (d := z1.1) (ps := z1.2) Tryz.underlying22 ⟨k2, by simpa [Value.cells] using g1'⟩
  obtain ⟨ys, hr', dx', hnc', hcm', hl'⟩ := open_words (d := y1.1) (ps := y1.2) Tryz.underlying22 ⟨k, by simpa [Value.cells] using h1'⟩
  refine ⟨s, A, n, c, xs, z1.1, D, m, f, ys, y1.1, rfl, ?_, hr, dx, hnc, hcm, hl, hr', dx', hnc', hcm', hl'⟩
  rw [hx.1, hz]

theorem rreach {H : Type} {s : Bool} {dw du : DataW H} {n m : Nat} (h : DLen dw n) (h' : DLen du m) {ts : List TypeId} {ds : List (DataW H)} (hS : (DataW.weightsEach Tryz.prog ts ds).all (· ≤ reachBytes) = true) {j : Nat}
    (ht : ts[j]? = some 26) (hd : ds[j]? = some (.agg [.agg [.lit (.bool s), dw], du])) : n ≤ 17592186043904 ∧ m ≤ 17592186043904 := by
  have h2 : Tryz.prog.bytesOf 124 = 8 := by kernel_rfl
  have h3 : reachBytes = 140737488351232 := by decide
  constructor
  · rcases h with rfl | ⟨elems, spare, rfl, rfl⟩
    · omega
    · have h1 := List.all_eq_true.1 hS _ (DataW.weights_mem_each ht hd ((elems.length + spare.length) * Tryz.prog.bytesOf 124) (by
        simp [DataW.weights, DataW.weightsEach, Tryz.underlying26, Tryz.underlying24, Tryz.underlying22]))
      rw [h2, h3] at h1
      simp at h1
      omega
  · rcases h' with rfl | ⟨elems, spare, rfl, rfl⟩
    · omega
    · have h1 := List.all_eq_true.1 hS _ (DataW.weights_mem_each ht hd ((elems.length + spare.length) * Tryz.prog.bytesOf 124) (by
        simp [DataW.weights, DataW.weightsEach, Tryz.underlying26, Tryz.underlying24, Tryz.underlying22]))
      rw [h2, h3] at h1
      simp at h1
      omega
theorem rbulk {H : Type} {s : Bool} {dw du : DataW H} {n m : Nat} (h : DLen dw n) (h' : DLen du m) : n ≤ Rows.uptoBulk (DataW.agg [.agg [.lit (.bool s), dw], du]) ∧ m ≤ Rows.uptoBulk (DataW.agg [.agg [.lit (.bool s), dw], du]) := by
  have := h.bulk
  have := h'.bulk
  simp only [Rows.uptoBulk, Rows.uptoBulkAll]
  omega
end Go.Proofs.YtieicmcbdhaipaaGreat
