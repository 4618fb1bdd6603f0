
/-
  QueuePrunes answers true for every input.
-/
import Derived.Test.YtepaamclfdadnaaGreatFrameP
import Derived.Test.YtepaamclfdadnaaGreatBundleP
import Derived.Test.YtepaamclfdadnaaGreatOpenN
import Derived.Test.YtepaamclfdadnaaGreatQueuePrunesW


namespace Go.Proofs.YtepaamclfdadnaaGreat
open Go.ChangeShapes Go.WideShapes Go.ChangeAt Go.RowKit Go.Proofs.YtepaamclfdadnaaGreat.Num
set_option maxRecDepth 100000
set_option linter.unusedVariables false
namespace fnQueuePrunes

theorem reads (os : Os) {H : Type} (enc : TypeId × Value → H) : ∃ places, DataW.whole enc Tryz.prog ((World.holding Tryz.prog os ⟨#[], #[], []⟩).forCall (fun _ _ => 0) ⟨#[], #[Value.int .i64 0, .slice none 0 0, .agg #[.bool false, .slice none 0 0, .slice none 0 0]], []⟩).memory Tryz.f4.params.toList Rows.queuePrunesSpec.vars false (#[Value.int .i64 0, .slice none 0 0, .agg #[.bool false, .slice none 0 0, .slice none 0 0]]).toList 8 = some ([.lit (.int .i64 0), .nil, .agg [.agg [.lit (.bool false), .nil], .nil]], [], places) :=
  ⟨[], by kernel_rfl⟩

set_option maxHeartbeats 2000000 in
theorem lifted (os : Os) (started : os.Started) (H : Type) (enc : TypeId × Value → H) (F : Stop.Interp) :
    ReturnsInHanded {} Tryz.checked os 4 .any ((OpenSpec.ofChange Rows.queuePrunesSpec).preRow enc Tryz.prog Tryz.f4 Rows.queuePrunesRow.domain false Rows.queuePrunesRow.laid) (((OpenSpec.ofChange Rows.queuePrunesSpec).at F).post enc Tryz.prog Tryz.f4 false true false false) := by
  obtain ⟨places, hx⟩ := reads os enc
  refine returnsInHanded_of_row (C := Tryz.checked) (s := (OpenSpec.ofChange Rows.queuePrunesSpec)) own started (by kernel_rfl) Tryz.func4
    (witness_row_atRef (enc := enc) (C := Tryz.checked) false (World.holding Tryz.prog os ⟨#[], #[], []⟩) #[Value.int .i64 0, .slice none 0 0, .agg #[.bool false, .slice none 0 0, .slice none 0 0]] rfl (by kernel_rfl) (by kernel_rfl) (by kernel_rfl)
      (OpenSpec.preRow_of_cond 8 hx (by kernel_rfl) (fun k hk => by cases hk) (by kernel_rfl) (none_laid _))) ?_
  intro W base args ds gs before hval0 hW _ hcond hsized hL _ _
  have hval : ∀ (j : Nat) t v, Tryz.f4.params[j]? = some t → args[j]? = some v → Value.okWide Tryz.prog W .any base t v := hval0
  have hW' := hW
  obtain ⟨p, q, hA0, hV, rfl, hfz, hnd⟩ := hW
  have hA : DataW.TrodAll enc Tryz.prog W 0 (fun _ => true) true Tryz.f4.params.toList args.toList ds p := hA0
  have hS : (DataW.weightsEach Tryz.prog (Tryz.f4.params.toList ++ []) (ds ++ gs)).all (· ≤ reachBytes) = true := hsized
  rw [Tryz.params4] at hA hval hS
  obtain ⟨v0, vs0, d0, ds0, p0, q0, hargs, rfl, rfl, h0, r0⟩ := trodAll_cons hA
  obtain ⟨v1, vs1, d1, ds1, p1, q1, rfl, rfl, rfl, h1, r1⟩ := trodAll_cons r0
  obtain ⟨v2, vs2, d2, ds2, p2, q2, rfl, rfl, rfl, h2, r2⟩ := trodAll_cons r1
  obtain ⟨rfl, rfl, rfl⟩ := trodAll_nil r2
  obtain rfl : args = #[v0, v1, v2] := by cases args; simp_all
  obtain ⟨rfl, rfl⟩ := trodVars_none hV
  obtain ⟨z0, rfl, rfl, rfl, wz0⟩ := open_int Tryz.underlying3 (hval 0 3 v0 rfl rfl) h0
  have k1 := h1
  have lt1 : ∀ x ∈ p1, x.block < W.heap.size := by obtain ⟨m, hm⟩ := k1; exact DataW.trod_lt m _ _ _ hm
  obtain ⟨xs1, tv1⟩ := open_nodes (hval 1 29 v1 rfl rfl) h1 hS (j := 1) rfl rfl
  have k2 := h2
  have lt2 : ∀ x ∈ p2, x.block < W.heap.size := by obtain ⟨m, hm⟩ := k2; exact DataW.trod_lt m _ _ _ hm
  obtain ⟨y2, rfl, rr2⟩ := open_rx (hval 2 36 v2 rfl rfl) h2 hS (j := 2) rfl rfl
  clear hA0 hV hval0 hcond hsized
  refine (quprunes_go W z0 v1 _ y2 _  wz0 tv1 rr2).mono ?_
  rintro e W' ⟨rfl, bel⟩
  exact ⟨_, rfl, _, _, _, [], _, [], hW', trodAll_mk1 (shut_bool Tryz.underlying4 _), trodAll_cons_mk (shut_int Tryz.underlying3 wz0) (trodAll_cons_mk (Below.trod laid_out (by kernel_rfl) (of_decide_eq_true (by kernel_rfl)) k1 bel lt1) (trodAll_cons_mk (Below.trod laid_out (by kernel_rfl) (of_decide_eq_true (by kernel_rfl)) k2 bel lt2) trodAll_mk0)), rfl, bel.frame _, fun h => by cases h⟩

theorem named : Tryz.pinned.checked.prog.funcNamed Rows.queuePrunesRow.func = some 4 := by kernel_rfl
theorem placed : Tryz.pinned.checked.prog.funcs[4]? = some Tryz.f4 := Tryz.func4
theorem facts : joinedFacts Tryz.pinned.checked.prog 4 Tryz.f4 (OpenSpec.ofChange Rows.queuePrunesSpec).bare Rows.queuePrunesRow = true := by kernel_rfl
theorem inst : Tryz.f4.isInstance Tryz.pinned.checked.prog Rows.queuePrunesRow.origin Rows.queuePrunesRow.targs := of_decide_eq_true (by kernel_rfl)
theorem wrap : Tryz.f4.isWrapper Tryz.pinned.checked.prog Rows.queuePrunesRow.wrapper Rows.queuePrunesRow.mainSum := by
  unfold Func.isWrapper
  rw [if_neg (of_decide_eq_false (by kernel_rfl))]
  exact ⟨rfl, rfl⟩
theorem step : ∀ os : Os, os.Started → ∀ (H : Type) (enc : TypeId × Value → H), (∀ a b, enc a = enc b → a = b) → ∀ F : Stop.Interp,
    ReturnsInHanded Rows.queuePrunesRow.assume Tryz.pinned.checked os 4 .any (Rows.queuePrunesRow.pre enc Tryz.pinned.checked.prog Tryz.f4 (OpenSpec.ofChange Rows.queuePrunesSpec)) (((OpenSpec.ofChange Rows.queuePrunesSpec).at F).post enc Tryz.pinned.checked.prog Tryz.f4 Rows.queuePrunesRow.apart Rows.queuePrunesRow.fresh Rows.queuePrunesRow.handsOn Rows.queuePrunesRow.again) :=
  fun os started H enc _ F => by rw [OpenClaim.pre_eq_preRow]; exact lifted os started H enc F

theorem said : Rows.QueuePrunesSaid :=
  OpenClaim.holds_of_cond 4 Tryz.f4 rfl rfl rfl rfl rfl rfl rfl ⟨rfl, rfl, rfl, rfl, rfl⟩ rfl rfl rfl rfl rfl named placed facts inst wrap step

end fnQueuePrunes
#print axioms fnQueuePrunes.said
end Go.Proofs.YtepaamclfdadnaaGreat
