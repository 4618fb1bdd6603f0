
/-
  QueueSorts answers true for every input.
-/
import Derived.Test.YtepaamclfdadnaaFrameP
import Derived.Test.YtepaamclfdadnaaBundleP
import Derived.Test.YtepaamclfdadnaaOpenN
import Derived.Test.YtepaamclfdadnaaQueueSortsW


namespace Go.Proofs.Ytepaamclfdadnaa
open Go.ChangeShapes Go.WideShapes Go.ChangeAt Go.RowKit Go.Proofs.Ytepaamclfdadnaa.Num
set_option maxRecDepth 100000
set_option linter.unusedVariables false
namespace fnQueueSorts

theorem reads (os : Os) {H : Type} (enc : TypeId × Value → H) : ∃ places, DataW.whole enc Try.prog ((World.holding Try.prog os ⟨#[], #[], []⟩).forCall (fun _ _ => 0) ⟨#[], #[Value.int .i64 0, .slice none 0 0], []⟩).memory Try.f3.params.toList Rows.queueSortsSpec.vars false (#[Value.int .i64 0, .slice none 0 0]).toList 8 = some ([.lit (.int .i64 0), .nil], [], places) :=
  ⟨[], by kernel_rfl⟩

set_option maxHeartbeats 2000000 in
theorem lifted (os : Os) (started : os.Started) (H : Type) (enc : TypeId × Value → H) (F : Stop.Interp) :
    ReturnsInHanded {} Try.checked os 3 .any ((OpenSpec.ofChange Rows.queueSortsSpec).preRow enc Try.prog Try.f3 Rows.queueSortsRow.domain false Rows.queueSortsRow.laid) (((OpenSpec.ofChange Rows.queueSortsSpec).at F).post enc Try.prog Try.f3 false true false false) := by
  obtain ⟨places, hx⟩ := reads os enc
  refine returnsInHanded_of_row (C := Try.checked) (s := (OpenSpec.ofChange Rows.queueSortsSpec)) own started (by kernel_rfl) Try.func3
    (witness_row_atRef (enc := enc) (C := Try.checked) false (World.holding Try.prog os ⟨#[], #[], []⟩) #[Value.int .i64 0, .slice none 0 0] rfl (by kernel_rfl) (by kernel_rfl) (by kernel_rfl)
      (OpenSpec.preRow_of_cond 8 hx (by kernel_rfl) (fun k hk => by cases hk) (by kernel_rfl) (none_laid _))) ?_
  intro W base args ds gs before hval0 hW _ hcond hsized hL _ _
  have hval : ∀ (j : Nat) t v, Try.f3.params[j]? = some t → args[j]? = some v → Value.okWide Try.prog W .any base t v := hval0
  have hW' := hW
  obtain ⟨p, q, hA0, hV, rfl, hfz, hnd⟩ := hW
  have hA : DataW.TrodAll enc Try.prog W 0 (fun _ => true) true Try.f3.params.toList args.toList ds p := hA0
  have hS : (DataW.weightsEach Try.prog (Try.f3.params.toList ++ []) (ds ++ gs)).all (· ≤ reachBytes) = true := hsized
  rw [Try.params3] at hA hval hS
  obtain ⟨v0, vs0, d0, ds0, p0, q0, hargs, rfl, rfl, h0, r0⟩ := trodAll_cons hA
  obtain ⟨v1, vs1, d1, ds1, p1, q1, rfl, rfl, rfl, h1, r1⟩ := trodAll_cons r0
  obtain ⟨rfl, rfl, rfl⟩ := trodAll_nil r1
  obtain rfl : args = #[v0, v1] := by cases args; simp_all
  obtain ⟨rfl, rfl⟩ := trodVars_none hV
  obtain ⟨z0, rfl, rfl, rfl, wz0⟩ := open_int Try.underlying3 (hval 0 3 v0 rfl rfl) h0
  have k1 := h1
  have lt1 : ∀ x ∈ p1, x.block < W.heap.size := by obtain ⟨m, hm⟩ := k1; exact DataW.trod_lt m _ _ _ hm
  obtain ⟨xs1, tv1⟩ := open_nodesW (hval 1 22 v1 rfl rfl) h1 hS (j := 1) rfl rfl
  clear hA0 hV hval0 hcond hsized
  refine (qusorts_go W z0 v1 _  wz0 tv1).mono ?_
  rintro e W' ⟨rfl, bel⟩
  exact ⟨_, rfl, _, _, _, [], _, [], hW', trodAll_mk1 (shut_bool Try.underlying4 _), trodAll_cons_mk (shut_int Try.underlying3 wz0) (trodAll_cons_mk (Below.trod laid_out (by kernel_rfl) (of_decide_eq_true (by kernel_rfl)) k1 bel lt1) trodAll_mk0), rfl, bel.frame _, fun h => by cases h⟩

theorem named : Try.pinned.checked.prog.funcNamed Rows.queueSortsRow.func = some 3 := by kernel_rfl
theorem placed : Try.pinned.checked.prog.funcs[3]? = some Try.f3 := Try.func3
theorem facts : joinedFacts Try.pinned.checked.prog 3 Try.f3 (OpenSpec.ofChange Rows.queueSortsSpec).bare Rows.queueSortsRow = true := by kernel_rfl
theorem inst : Try.f3.isInstance Try.pinned.checked.prog Rows.queueSortsRow.origin Rows.queueSortsRow.targs := of_decide_eq_true (by kernel_rfl)
theorem wrap : Try.f3.isWrapper Try.pinned.checked.prog Rows.queueSortsRow.wrapper Rows.queueSortsRow.mainSum := by
  unfold Func.isWrapper
  rw [if_neg (of_decide_eq_false (by kernel_rfl))]
  exact ⟨rfl, rfl⟩
theorem step : ∀ os : Os, os.Started → ∀ (H : Type) (enc : TypeId × Value → H), (∀ a b, enc a = enc b → a = b) → ∀ F : Stop.Interp,
    ReturnsInHanded Rows.queueSortsRow.assume Try.pinned.checked os 3 .any (Rows.queueSortsRow.pre enc Try.pinned.checked.prog Try.f3 (OpenSpec.ofChange Rows.queueSortsSpec)) (((OpenSpec.ofChange Rows.queueSortsSpec).at F).post enc Try.pinned.checked.prog Try.f3 Rows.queueSortsRow.apart Rows.queueSortsRow.fresh Rows.queueSortsRow.handsOn Rows.queueSortsRow.again) :=
  fun os started H enc _ F => by rw [OpenClaim.pre_eq_preRow]; exact lifted os started H enc F

theorem said : Rows.QueueSortsSaid :=
  OpenClaim.holds_of_cond 3 Try.f3 rfl rfl rfl rfl rfl rfl rfl ⟨rfl, rfl, rfl, rfl, rfl⟩ rfl rfl rfl rfl rfl named placed facts inst wrap step

end fnQueueSorts
#print axioms fnQueueSorts.said
end Go.Proofs.Ytepaamclfdadnaa
