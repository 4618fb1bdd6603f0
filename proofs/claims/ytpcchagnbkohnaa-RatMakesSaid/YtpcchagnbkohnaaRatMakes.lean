/-
  RatMakes answers true for every input.
-/
import Derived.Test.YtpcchagnbkohnaaFrameP
import Derived.Test.YtpcchagnbkohnaaOpen
import Derived.Test.YtpcchagnbkohnaaOpenZ
import Derived.Test.YtpcchagnbkohnaaRatMakesW


namespace Go.Proofs.Ytpcchagnbkohnaa
open Go.ChangeShapes Go.WideShapes Go.ChangeAt Go.RowKit Go.Proofs.Ytpcchagnbkohnaa.Num
set_option maxRecDepth 100000
set_option linter.unusedVariables false
namespace fnRatMakes

theorem reads (os : Os) {H : Type} (enc : TypeId × Value → H) : ∃ places, DataW.whole enc Try.prog ((World.holding Try.prog os ⟨#[], #[], []⟩).forCall (fun _ _ => 0) ⟨#[], #[Value.agg #[.bool false, .slice none 0 0], .agg #[.bool false, .slice none 0 0]], []⟩).memory Try.f3.params.toList Rows.ratMakesSpec.vars false (#[Value.agg #[.bool false, .slice none 0 0], .agg #[.bool false, .slice none 0 0]]).toList 8 = some ([.agg [.lit (.bool false), .nil], .agg [.lit (.bool false), .nil]], [], places) :=
  ⟨[], by kernel_rfl⟩

set_option maxHeartbeats 2000000 in
theorem lifted (os : Os) (started : os.Started) (H : Type) (enc : TypeId × Value → H) (F : Stop.Interp) :
    ReturnsInHanded {} Try.checked os 3 .any ((OpenSpec.ofChange Rows.ratMakesSpec).preRow enc Try.prog Try.f3 Rows.ratMakesRow.domain false Rows.ratMakesRow.laid) (((OpenSpec.ofChange Rows.ratMakesSpec).at F).post enc Try.prog Try.f3 false true false false) := by
  obtain ⟨places, hx⟩ := reads os enc
  refine returnsInHanded_of_row (C := Try.checked) (s := (OpenSpec.ofChange Rows.ratMakesSpec)) own started (by kernel_rfl) Try.func3
    (witness_row_atRef (enc := enc) (C := Try.checked) false (World.holding Try.prog os ⟨#[], #[], []⟩) #[Value.agg #[.bool false, .slice none 0 0], .agg #[.bool false, .slice none 0 0]] rfl (by kernel_rfl) (by kernel_rfl) (by kernel_rfl)
      (OpenSpec.preRow_of_cond 8 hx (by kernel_rfl) (fun k hk => by cases hk) (by kernel_rfl) (none_laid _))) ?_
  intro W base args ds gs before hval0 hW _ hcond hsized hL _ _
  have hval : ∀ (j : Nat) t v, Try.f3.params[j]? = some t → args[j]? = some v → Value.okWide Try.prog W .any base t v := hval0
  have hW' := hW
  obtain ⟨p, q, hA0, hV, rfl, hfz, hnd⟩ := hW
  have hA : DataW.TrodAll enc Try.prog W 0 (fun _ => true) true Try.f3.params.toList args.toList ds p := hA0
  have hS : (DataW.weightsEach Try.prog (Try.f3.params.toList ++ []) (ds ++ gs)).all (· ≤ reachBytes) = true := hsized
  rw [Try.params3] at hA hval hS
  obtain ⟨v0, vs0, d0, ds0, p0, q0, hargs, rfl, rfl, h0, r0⟩ := trodAll_cons hA
  obtain ⟨v1, vs1, d1, ds1, p1, q1, rfl, rfl, rfl, h1, r1⟩ := trodAll_cons r0
  obtain ⟨rfl, rfl, rfl⟩ := trodAll_nil r1
  obtain rfl : args = #[v0, v1] := by cases args; simp_all
  obtain ⟨rfl, rfl⟩ := trodVars_none hV
  have k0 := h0
  have lt0 : ∀ x ∈ p0, x.block < W.heap.size := by obtain ⟨m, hm⟩ := k0; exact DataW.trod_lt m _ _ _ hm
  obtain ⟨s0, a0, n0, c0, xs0, dw0, rfl, rfl, rd0, dg0, nc0, cm0, dl0⟩ := open_zint (hval 0 24 v0 rfl rfl) h0
  have k1 := h1
  have lt1 : ∀ x ∈ p1, x.block < W.heap.size := by obtain ⟨m, hm⟩ := k1; exact DataW.trod_lt m _ _ _ hm
  obtain ⟨s1, a1, n1, c1, xs1, dw1, rfl, rfl, rd1, dg1, nc1, cm1, dl1⟩ := open_zint (hval 1 24 v1 rfl rfl) h1
  have le0 : n0 ≤ 17592186043904 := zreach dl0 hS (j := 0) rfl rfl
  have nw0 : Nw W (.slice a0 n0 c0) (vl Q xs0) _ := ⟨a0, n0, c0, xs0, rfl, rd0, dg0, nc0, cm0, rfl, le0⟩
  have le1 : n1 ≤ 17592186043904 := zreach dl1 hS (j := 1) rfl rfl
  have nw1 : Nw W (.slice a1 n1 c1) (vl Q xs1) _ := ⟨a1, n1, c1, xs1, rfl, rd1, dg1, nc1, cm1, rfl, le1⟩
  clear hA0 hV hval0 hcond hsized
  refine (ratmakes_true W s0 (.slice a0 n0 c0) s1 (.slice a1 n1 c1) _ _ nw0 nw1).mono ?_
  rintro e W' ⟨rfl, bel⟩
  exact ⟨_, rfl, _, _, _, [], _, [], hW', trodAll_mk1 (shut_bool Try.underlying4 _), trodAll_cons_mk (Below.trod laid_out (by kernel_rfl) (of_decide_eq_true (by kernel_rfl)) k0 bel lt0) (trodAll_cons_mk (Below.trod laid_out (by kernel_rfl) (of_decide_eq_true (by kernel_rfl)) k1 bel lt1) trodAll_mk0), rfl, bel.frame _, fun h => by cases h⟩

theorem named : Try.pinned.checked.prog.funcNamed Rows.ratMakesRow.func = some 3 := by kernel_rfl
theorem placed : Try.pinned.checked.prog.funcs[3]? = some Try.f3 := Try.func3
theorem facts : joinedFacts Try.pinned.checked.prog 3 Try.f3 (OpenSpec.ofChange Rows.ratMakesSpec).bare Rows.ratMakesRow = true := by kernel_rfl
theorem inst : Try.f3.isInstance Try.pinned.checked.prog Rows.ratMakesRow.origin Rows.ratMakesRow.targs := of_decide_eq_true (by kernel_rfl)
theorem wrap : Try.f3.isWrapper Try.pinned.checked.prog Rows.ratMakesRow.wrapper Rows.ratMakesRow.mainSum := by
  unfold Func.isWrapper
  rw [if_neg (of_decide_eq_false (by kernel_rfl))]
  exact ⟨rfl, rfl⟩
theorem step : ∀ os : Os, os.Started → ∀ (H : Type) (enc : TypeId × Value → H), (∀ a b, enc a = enc b → a = b) → ∀ F : Stop.Interp,
    ReturnsInHanded Rows.ratMakesRow.assume Try.pinned.checked os 3 .any (Rows.ratMakesRow.pre enc Try.pinned.checked.prog Try.f3 (OpenSpec.ofChange Rows.ratMakesSpec)) (((OpenSpec.ofChange Rows.ratMakesSpec).at F).post enc Try.pinned.checked.prog Try.f3 Rows.ratMakesRow.apart Rows.ratMakesRow.fresh Rows.ratMakesRow.handsOn Rows.ratMakesRow.again) :=
  fun os started H enc _ F => by rw [OpenClaim.pre_eq_preRow]; exact lifted os started H enc F

theorem said : Rows.RatMakesSaid :=
  OpenClaim.holds_of_cond 3 Try.f3 rfl rfl rfl rfl rfl rfl rfl ⟨rfl, rfl, rfl, rfl, rfl⟩ rfl rfl rfl rfl rfl named placed facts inst wrap step

end fnRatMakes
#print axioms fnRatMakes.said
end Go.Proofs.Ytpcchagnbkohnaa
