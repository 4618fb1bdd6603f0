/-
  RatRounds answers true for every input.
-/
import Derived.Test.YtpcchagnbkohnaaFrameP
import Derived.Test.YtpcchagnbkohnaaOpen
import Derived.Test.YtpcchagnbkohnaaOpenZ
import Derived.Test.YtpcchagnbkohnaaOpenR
import Derived.Test.YtpcchagnbkohnaaRatRoundsW


namespace Go.Proofs.Ytpcchagnbkohnaa
open Go.ChangeShapes Go.WideShapes Go.ChangeAt Go.RowKit Go.Proofs.Ytpcchagnbkohnaa.Num
set_option maxRecDepth 100000
set_option linter.unusedVariables false
namespace fnRatRounds

theorem reads (os : Os) {H : Type} (enc : TypeId × Value → H) : ∃ places, DataW.whole enc Try.prog ((World.holding Try.prog os ⟨#[], #[], []⟩).forCall (fun _ _ => 0) ⟨#[], #[Value.agg #[.bool false, .slice none 0 0, .slice none 0 0]], []⟩).memory Try.f5.params.toList Rows.ratRoundsSpec.vars false (#[Value.agg #[.bool false, .slice none 0 0, .slice none 0 0]]).toList 8 = some ([.agg [.agg [.lit (.bool false), .nil], .nil]], [], places) :=
  ⟨[], by kernel_rfl⟩

set_option maxHeartbeats 2000000 in
theorem lifted (os : Os) (started : os.Started) (H : Type) (enc : TypeId × Value → H) (F : Stop.Interp) :
    ReturnsInHanded {} Try.checked os 5 .any ((OpenSpec.ofChange Rows.ratRoundsSpec).preRow enc Try.prog Try.f5 Rows.ratRoundsRow.domain false Rows.ratRoundsRow.laid) (((OpenSpec.ofChange Rows.ratRoundsSpec).at F).post enc Try.prog Try.f5 false true false false) := by
  obtain ⟨places, hx⟩ := reads os enc
  refine returnsInHanded_of_row (C := Try.checked) (s := (OpenSpec.ofChange Rows.ratRoundsSpec)) own started (by kernel_rfl) Try.func5
    (witness_row_atRef (enc := enc) (C := Try.checked) false (World.holding Try.prog os ⟨#[], #[], []⟩) #[Value.agg #[.bool false, .slice none 0 0, .slice none 0 0]] rfl (by kernel_rfl) (by kernel_rfl) (by kernel_rfl)
      (OpenSpec.preRow_of_cond 8 hx (by kernel_rfl) (fun k hk => by cases hk) (by kernel_rfl) (none_laid _))) ?_
  intro W base args ds gs before hval0 hW _ hcond hsized hL _ _
  have hval : ∀ (j : Nat) t v, Try.f5.params[j]? = some t → args[j]? = some v → Value.okWide Try.prog W .any base t v := hval0
  have hW' := hW
  obtain ⟨p, q, hA0, hV, rfl, hfz, hnd⟩ := hW
  have hA : DataW.TrodAll enc Try.prog W 0 (fun _ => true) true Try.f5.params.toList args.toList ds p := hA0
  have hS : (DataW.weightsEach Try.prog (Try.f5.params.toList ++ []) (ds ++ gs)).all (· ≤ reachBytes) = true := hsized
  rw [Try.params5] at hA hval hS
  obtain ⟨v0, vs0, d0, ds0, p0, q0, hargs, rfl, rfl, h0, r0⟩ := trodAll_cons hA
  obtain ⟨rfl, rfl, rfl⟩ := trodAll_nil r0
  obtain rfl : args = #[v0] := by cases args; simp_all
  obtain ⟨rfl, rfl⟩ := trodVars_none hV
  have k0 := h0
  have lt0 : ∀ x ∈ p0, x.block < W.heap.size := by obtain ⟨m, hm⟩ := k0; exact DataW.trod_lt m _ _ _ hm
  obtain ⟨s0, a0, n0, c0, xs0, dw0, e0, m0, f0, ys0, du0, rfl, rfl, rd0, dg0, nc0, cm0, dl0, rg0, dh0, ng0, cg0, dk0⟩ := open_rat (hval 0 28 v0 rfl rfl) h0
  have le0 : n0 ≤ 17592186043904 := (rreach dl0 dk0 hS (j := 0) rfl rfl).1
  have lf0 : m0 ≤ 17592186043904 := (rreach dl0 dk0 hS (j := 0) rfl rfl).2
  have nw0 : Nw W (.slice a0 n0 c0) (vl Q xs0) _ := ⟨a0, n0, c0, xs0, rfl, rd0, dg0, nc0, cm0, rfl, le0⟩
  have nv0 : Nw W (.slice e0 m0 f0) (vl Q ys0) _ := ⟨e0, m0, f0, ys0, rfl, rg0, dh0, ng0, cg0, rfl, lf0⟩
  clear hA0 hV hval0 hcond hsized
  refine (ratrounds_true W s0 (.slice a0 n0 c0) (.slice e0 m0 f0) _ _ nw0 nv0).mono ?_
  rintro e W' ⟨rfl, bel⟩
  exact ⟨_, rfl, _, _, _, [], _, [], hW', trodAll_mk1 (shut_bool Try.underlying4 _), trodAll_cons_mk (Below.trod laid_out (by kernel_rfl) (of_decide_eq_true (by kernel_rfl)) k0 bel lt0) trodAll_mk0, rfl, bel.frame _, fun h => by cases h⟩

theorem named : Try.pinned.checked.prog.funcNamed Rows.ratRoundsRow.func = some 5 := by kernel_rfl
theorem placed : Try.pinned.checked.prog.funcs[5]? = some Try.f5 := Try.func5
theorem facts : joinedFacts Try.pinned.checked.prog 5 Try.f5 (OpenSpec.ofChange Rows.ratRoundsSpec).bare Rows.ratRoundsRow = true := by kernel_rfl
theorem inst : Try.f5.isInstance Try.pinned.checked.prog Rows.ratRoundsRow.origin Rows.ratRoundsRow.targs := of_decide_eq_true (by kernel_rfl)
theorem wrap : Try.f5.isWrapper Try.pinned.checked.prog Rows.ratRoundsRow.wrapper Rows.ratRoundsRow.mainSum := by
  unfold Func.isWrapper
  rw [if_neg (of_decide_eq_false (by kernel_rfl))]
  exact ⟨rfl, rfl⟩
theorem step : ∀ os : Os, os.Started → ∀ (H : Type) (enc : TypeId × Value → H), (∀ a b, enc a = enc b → a = b) → ∀ F : Stop.Interp,
    ReturnsInHanded Rows.ratRoundsRow.assume Try.pinned.checked os 5 .any (Rows.ratRoundsRow.pre enc Try.pinned.checked.prog Try.f5 (OpenSpec.ofChange Rows.ratRoundsSpec)) (((OpenSpec.ofChange Rows.ratRoundsSpec).at F).post enc Try.pinned.checked.prog Try.f5 Rows.ratRoundsRow.apart Rows.ratRoundsRow.fresh Rows.ratRoundsRow.handsOn Rows.ratRoundsRow.again) :=
  fun os started H enc _ F => by rw [OpenClaim.pre_eq_preRow]; exact lifted os started H enc F

theorem said : Rows.RatRoundsSaid :=
  OpenClaim.holds_of_cond 5 Try.f5 rfl rfl rfl rfl rfl rfl rfl ⟨rfl, rfl, rfl, rfl, rfl⟩ rfl rfl rfl rfl rfl named placed facts inst wrap step

end fnRatRounds
#print axioms fnRatRounds.said
end Go.Proofs.Ytpcchagnbkohnaa
