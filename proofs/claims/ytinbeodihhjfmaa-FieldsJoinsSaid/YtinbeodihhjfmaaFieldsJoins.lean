/-
  FieldsJoins answers true for every input.
-/
import Derived.ShutString
import Derived.ChangeMaps5
import Derived.ChangeSlices
import Derived.SizedLaws
import Derived.Test.YtinbeodihhjfmaaFrameP
import Derived.Test.YtinbeodihhjfmaaJoinsW
namespace Go.Proofs.Ytinbeodihhjfmaa
open Go.ChangeShapes Go.WideShapes Go.ChangeAt Go.RowKit Go.Proofs.Ytinbeodihhjfmaa.Num
open Go.ChangeMaps (open_string shut_string)
set_option maxRecDepth 100000
set_option linter.unusedVariables false
namespace fnFieldsJoins

theorem reads (os : Os) {H : Type} (enc : TypeId × Value → H) : ∃ places, DataW.whole enc Try.prog ((World.holding Try.prog os ⟨#[], #[], []⟩).forCall (fun _ _ => 0) ⟨#[], #[Value.string ⟨#[]⟩, .string ⟨#[]⟩], []⟩).memory Try.f4.params.toList Rows.fieldsJoinsSpec.vars false (#[Value.string ⟨#[]⟩, .string ⟨#[]⟩]).toList 8 = some ([.lit (.string []), .lit (.string [])], [], places) :=
  ⟨[], by kernel_rfl⟩

set_option maxHeartbeats 2000000 in
theorem lifted (os : Os) (started : os.Started) (H : Type) (enc : TypeId × Value → H) (F : Stop.Interp) :
    ReturnsInHanded {} Try.checked os 4 .any ((OpenSpec.ofChange Rows.fieldsJoinsSpec).preRow enc Try.prog Try.f4 Rows.fieldsJoinsRow.domain false Rows.fieldsJoinsRow.laid) (((OpenSpec.ofChange Rows.fieldsJoinsSpec).at F).post enc Try.prog Try.f4 false true false false) := by
  obtain ⟨places, hx⟩ := reads os enc
  refine returnsInHanded_of_row (C := Try.checked) (s := (OpenSpec.ofChange Rows.fieldsJoinsSpec)) own started (by kernel_rfl) Try.func4
    (witness_row_atRef (enc := enc) (C := Try.checked) false (World.holding Try.prog os ⟨#[], #[], []⟩) #[Value.string ⟨#[]⟩, .string ⟨#[]⟩] rfl (by kernel_rfl) (by kernel_rfl) (by kernel_rfl)
      (OpenSpec.preRow_of_cond 8 hx (by kernel_rfl) (fun k hk => by cases hk) (by kernel_rfl) (none_laid _))) ?_
  intro W base args ds gs before hval0 hW _ hcond hsized hL _ _
  have hval : ∀ (j : Nat) t v, Try.f4.params[j]? = some t → args[j]? = some v → Value.okWide Try.prog W .any base t v := hval0
  have hW' := hW
  obtain ⟨p, q, hA0, hV, rfl, hfz, hnd⟩ := hW
  have hA : DataW.TrodAll enc Try.prog W 0 (fun _ => true) true Try.f4.params.toList args.toList ds p := hA0
  have hS : (DataW.weightsEach Try.prog (Try.f4.params.toList ++ []) (ds ++ gs)).all (· ≤ reachBytes) = true := hsized
  rw [Try.params4] at hA hval hS
  obtain ⟨v0, vs0, d0, ds0, p0, q0, hargs, rfl, rfl, h0, r0⟩ := trodAll_cons hA
  obtain ⟨v1, vs1, d1, ds1, p1, q1, rfl, rfl, rfl, h1, r1⟩ := trodAll_cons r0
  obtain ⟨rfl, rfl, rfl⟩ := trodAll_nil r1
  obtain rfl : args = #[v0, v1] := by cases args; simp_all
  obtain ⟨rfl, rfl⟩ := trodVars_none hV
  obtain ⟨t0, rfl, rfl, rfl, wt0⟩ := open_string Try.underlying9 (hval 0 9 v0 rfl rfl) h0
  obtain ⟨t1, rfl, rfl, rfl, wt1⟩ := open_string Try.underlying9 (hval 1 9 v1 rfl rfl) h1
  have le0 : t0.data.toList.length ≤ reachBytes := sized_string hS (j := 0) (t := 9) rfl rfl
  have le1 : t1.data.toList.length ≤ reachBytes := sized_string hS (j := 1) (t := 9) rfl rfl
  clear hA0 hV hval0 hcond hsized
  refine (joins_go W t0 t1  le0 le1).mono ?_
  rintro e W' ⟨rfl, bel⟩
  exact ⟨_, rfl, _, _, _, [], _, [], hW', trodAll_mk1 (shut_bool Try.underlying4 _), trodAll_cons_mk (shut_string Try.underlying9 wt0) (trodAll_cons_mk (shut_string Try.underlying9 wt1) trodAll_mk0), rfl, bel.frame _, fun h => by cases h⟩

theorem named : Try.pinned.checked.prog.funcNamed Rows.fieldsJoinsRow.func = some 4 := by kernel_rfl
theorem placed : Try.pinned.checked.prog.funcs[4]? = some Try.f4 := Try.func4
theorem facts : joinedFacts Try.pinned.checked.prog 4 Try.f4 (OpenSpec.ofChange Rows.fieldsJoinsSpec).bare Rows.fieldsJoinsRow = true := by kernel_rfl
theorem inst : Try.f4.isInstance Try.pinned.checked.prog Rows.fieldsJoinsRow.origin Rows.fieldsJoinsRow.targs := of_decide_eq_true (by kernel_rfl)
theorem wrap : Try.f4.isWrapper Try.pinned.checked.prog Rows.fieldsJoinsRow.wrapper Rows.fieldsJoinsRow.mainSum := by
  unfold Func.isWrapper
  rw [if_neg (of_decide_eq_false (by kernel_rfl))]
  exact ⟨rfl, rfl⟩
theorem step : ∀ os : Os, os.Started → ∀ (H : Type) (enc : TypeId × Value → H), (∀ a b, enc a = enc b → a = b) → ∀ F : Stop.Interp,
    ReturnsInHanded Rows.fieldsJoinsRow.assume Try.pinned.checked os 4 .any (Rows.fieldsJoinsRow.pre enc Try.pinned.checked.prog Try.f4 (OpenSpec.ofChange Rows.fieldsJoinsSpec)) (((OpenSpec.ofChange Rows.fieldsJoinsSpec).at F).post enc Try.pinned.checked.prog Try.f4 Rows.fieldsJoinsRow.apart Rows.fieldsJoinsRow.fresh Rows.fieldsJoinsRow.handsOn Rows.fieldsJoinsRow.again) :=
  fun os started H enc _ F => by rw [OpenClaim.pre_eq_preRow]; exact lifted os started H enc F

theorem said : Rows.FieldsJoinsSaid :=
  OpenClaim.holds_of_cond 4 Try.f4 rfl rfl rfl rfl rfl rfl rfl ⟨rfl, rfl, rfl, rfl, rfl⟩ rfl rfl rfl rfl rfl named placed facts inst wrap step

end fnFieldsJoins
#print axioms fnFieldsJoins.said
end Go.Proofs.Ytinbeodihhjfmaa
