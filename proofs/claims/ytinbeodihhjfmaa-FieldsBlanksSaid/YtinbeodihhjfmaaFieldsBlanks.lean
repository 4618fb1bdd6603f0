/-
  FieldsBlanks answers true for every input.
-/
import Derived.ShutString
import Derived.ChangeMaps5
import Derived.ChangeSlices
import Derived.SizedLaws
import Derived.Test.YtinbeodihhjfmaaFrameP
import Derived.Test.YtinbeodihhjfmaaBlanksW
namespace Go.Proofs.Ytinbeodihhjfmaa
open Go.ChangeShapes Go.WideShapes Go.ChangeAt Go.RowKit Go.Proofs.Ytinbeodihhjfmaa.Num
open Go.ChangeMaps (open_string shut_string)
set_option maxRecDepth 100000
set_option linter.unusedVariables false
namespace fnFieldsBlanks

theorem reads (os : Os) {H : Type} (enc : TypeId × Value → H) : ∃ places, DataW.whole enc Try.prog ((World.holding Try.prog os ⟨#[], #[], []⟩).forCall (fun _ _ => 0) ⟨#[], #[Value.string ⟨#[]⟩, .int .u8 0], []⟩).memory Try.f3.params.toList Rows.fieldsBlanksSpec.vars false (#[Value.string ⟨#[]⟩, .int .u8 0]).toList 8 = some ([.lit (.string []), .lit (.int .u8 0)], [], places) :=
  ⟨[], by kernel_rfl⟩

set_option maxHeartbeats 2000000 in
theorem lifted (os : Os) (started : os.Started) (H : Type) (enc : TypeId × Value → H) (F : Stop.Interp) :
    ReturnsInHanded {} Try.checked os 3 .any ((OpenSpec.ofChange Rows.fieldsBlanksSpec).preRow enc Try.prog Try.f3 Rows.fieldsBlanksRow.domain false Rows.fieldsBlanksRow.laid) (((OpenSpec.ofChange Rows.fieldsBlanksSpec).at F).post enc Try.prog Try.f3 false true false false) := by
  obtain ⟨places, hx⟩ := reads os enc
  refine returnsInHanded_of_row (C := Try.checked) (s := (OpenSpec.ofChange Rows.fieldsBlanksSpec)) own started (by kernel_rfl) Try.func3
    (witness_row_atRef (enc := enc) (C := Try.checked) false (World.holding Try.prog os ⟨#[], #[], []⟩) #[Value.string ⟨#[]⟩, .int .u8 0] rfl (by kernel_rfl) (by kernel_rfl) (by kernel_rfl)
      (OpenSpec.preRow_of_cond 8 hx (by kernel_rfl) (fun k hk => by cases hk) (by kernel_rfl) (none_laid _))) ?_
  intro W base args ds gs before hval0 hW _ hcond hsized hL _ _
  have hval : ∀ (j : Nat) t v, Try.f3.params[j]? = some t → args[j]? = some v → Value.okWide Try.prog W .any base t v := hval0
  have hW' := hW
  obtain ⟨p, q, hA0, hV, rfl, hfz, hnd⟩ := hW
  have hA : DataW.TrodAll enc Try.prog W 0 (fun _ => true) true Try.f3.params.toList args.toList ds p := hA0
  have hS : (DataW.weightsEach Try.prog (Try.f3.params.toList ++ []) (ds ++ gs)).all (· ≤ reachBytes) = true := hsized
  rw [Try.params3] at hA hval hS
  obtain ⟨v0, vs0, d0, ds0, p0, q0, hargs, rfl, rfl, h0, r0⟩ := trodAll_cons hA
  obtain ⟨v1, vs1, d1, ds1, p1, q1, rfl, rfl, rfl, h1, r1⟩ := trodAll_cons r0
  obtain ⟨rfl, rfl, rfl⟩ := trodAll_nil r1
  obtain rfl : args = #[v0, v1] := by cases args; simp_all
  obtain ⟨rfl, rfl⟩ := trodVars_none hV
  obtain ⟨t0, rfl, rfl, rfl, wt0⟩ := open_string Try.underlying9 (hval 0 9 v0 rfl rfl) h0
  obtain ⟨z1, rfl, rfl, rfl, wz1⟩ := open_int Try.underlying5 (hval 1 5 v1 rfl rfl) h1
  have le0 : t0.data.toList.length ≤ reachBytes := sized_string hS (j := 0) (t := 9) rfl rfl
  clear hA0 hV hval0 hcond hsized
  refine (blanks_go W t0 z1  le0 wz1).mono ?_
  rintro e W' ⟨rfl, bel⟩
  exact ⟨_, rfl, _, _, _, [], _, [], hW', trodAll_mk1 (shut_bool Try.underlying4 _), trodAll_cons_mk (shut_string Try.underlying9 wt0) (trodAll_cons_mk (shut_int Try.underlying5 wz1) trodAll_mk0), rfl, bel.frame _, fun h => by cases h⟩

theorem named : Try.pinned.checked.prog.funcNamed Rows.fieldsBlanksRow.func = some 3 := by kernel_rfl
theorem placed : Try.pinned.checked.prog.funcs[3]? = some Try.f3 := Try.func3
theorem facts : joinedFacts Try.pinned.checked.prog 3 Try.f3 (OpenSpec.ofChange Rows.fieldsBlanksSpec).bare Rows.fieldsBlanksRow = true := by kernel_rfl
theorem inst : Try.f3.isInstance Try.pinned.checked.prog Rows.fieldsBlanksRow.origin Rows.fieldsBlanksRow.targs := of_decide_eq_true (by kernel_rfl)
theorem wrap : Try.f3.isWrapper Try.pinned.checked.prog Rows.fieldsBlanksRow.wrapper Rows.fieldsBlanksRow.mainSum := by
  unfold Func.isWrapper
  rw [if_neg (of_decide_eq_false (by kernel_rfl))]
  exact ⟨rfl, rfl⟩
theorem step : ∀ os : Os, os.Started → ∀ (H : Type) (enc : TypeId × Value → H), (∀ a b, enc a = enc b → a = b) → ∀ F : Stop.Interp,
    ReturnsInHanded Rows.fieldsBlanksRow.assume Try.pinned.checked os 3 .any (Rows.fieldsBlanksRow.pre enc Try.pinned.checked.prog Try.f3 (OpenSpec.ofChange Rows.fieldsBlanksSpec)) (((OpenSpec.ofChange Rows.fieldsBlanksSpec).at F).post enc Try.pinned.checked.prog Try.f3 Rows.fieldsBlanksRow.apart Rows.fieldsBlanksRow.fresh Rows.fieldsBlanksRow.handsOn Rows.fieldsBlanksRow.again) :=
  fun os started H enc _ F => by rw [OpenClaim.pre_eq_preRow]; exact lifted os started H enc F

theorem said : Rows.FieldsBlanksSaid :=
  OpenClaim.holds_of_cond 3 Try.f3 rfl rfl rfl rfl rfl rfl rfl ⟨rfl, rfl, rfl, rfl, rfl⟩ rfl rfl rfl rfl rfl named placed facts inst wrap step

end fnFieldsBlanks
#print axioms fnFieldsBlanks.said
end Go.Proofs.Ytinbeodihhjfmaa
