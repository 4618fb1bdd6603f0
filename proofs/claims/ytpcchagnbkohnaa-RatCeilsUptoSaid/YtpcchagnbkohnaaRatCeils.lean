/-
  RatCeils answers true for every input of bulk at most 1048576.
-/
import Derived.Test.YtpcchagnbkohnaaFrameP
import Derived.Test.YtpcchagnbkohnaaOpen
import Derived.Test.YtpcchagnbkohnaaOpenZ
import Derived.Test.YtpcchagnbkohnaaOpenR
import Derived.Test.YtpcchagnbkohnaaRatCeilsW


namespace Go.Proofs.Ytpcchagnbkohnaa
open Go.ChangeShapes Go.WideShapes Go.ChangeAt Go.RowKit Go.Proofs.Ytpcchagnbkohnaa.Num
set_option maxRecDepth 100000
set_option linter.unusedVariables false
namespace fnRatCeilsUpto

theorem reads (os : Os) {H : Type} (enc : TypeId × Value → H) : ∃ places, DataW.whole enc Try.prog ((World.holding Try.prog os ⟨#[], #[], []⟩).forCall (fun _ _ => 0) ⟨#[], #[Value.agg #[.bool false, .slice none 0 0, .slice none 0 0]], []⟩).memory Try.f9.params.toList Rows.ratCeilsSpec.vars false (#[Value.agg #[.bool false, .slice none 0 0, .slice none 0 0]]).toList 8 = some ([.agg [.agg [.lit (.bool false), .nil], .nil]], [], places) :=
  ⟨[], by kernel_rfl⟩

set_option maxHeartbeats 2000000 in
theorem lifted (os : Os) (started : os.Started) (H : Type) (enc : TypeId × Value → H) (F : Stop.Interp) :
    ReturnsInHanded {} Try.checked os 9 .any ((Rows.OpenSpec.upto Rows.ratCeilsSpec).preRow enc Try.prog Try.f9 Rows.ratCeilsUptoRow.domain false Rows.ratCeilsUptoRow.laid) (((Rows.OpenSpec.upto Rows.ratCeilsSpec).at F).post enc Try.prog Try.f9 false true false false) := by
  obtain ⟨places, hx⟩ := reads os enc
  refine returnsInHanded_of_row (C := Try.checked) (s := (Rows.OpenSpec.upto Rows.ratCeilsSpec)) own started (by kernel_rfl) Try.func9
    (witness_row_atRef (enc := enc) (C := Try.checked) false (World.holding Try.prog os ⟨#[], #[], []⟩) #[Value.agg #[.bool false, .slice none 0 0, .slice none 0 0]] rfl (by kernel_rfl) (by kernel_rfl) (by kernel_rfl)
      (OpenSpec.preRow_of_cond 8 hx (by kernel_rfl) (fun k hk => by cases hk; kernel_rfl) (by kernel_rfl) (none_laid _))) ?_
  intro W base args ds gs before hval0 hW _ hcond hsized hL _ _
  have hval : ∀ (j : Nat) t v, Try.f9.params[j]? = some t → args[j]? = some v → Value.okWide Try.prog W .any base t v := hval0
  have hW' := hW
  obtain ⟨p, q, hA0, hV, rfl, hfz, hnd⟩ := hW
  have hA : DataW.TrodAll enc Try.prog W 0 (fun _ => true) true Try.f9.params.toList args.toList ds p := hA0
  have hS : (DataW.weightsEach Try.prog (Try.f9.params.toList ++ []) (ds ++ gs)).all (· ≤ reachBytes) = true := hsized
  have hB := bulk_of (hcond _ rfl)
  rw [Try.params9] at hA hval hS
  obtain ⟨v0, vs0, d0, ds0, p0, q0, hargs, rfl, rfl, h0, r0⟩ := trodAll_cons hA
  obtain ⟨rfl, rfl, rfl⟩ := trodAll_nil r0
  obtain rfl : args = #[v0] := by cases args; simp_all
  obtain ⟨rfl, rfl⟩ := trodVars_none hV
  have k0 := h0
  have lt0 : ∀ x ∈ p0, x.block < W.heap.size := by obtain ⟨m, hm⟩ := k0; exact DataW.trod_lt m _ _ _ hm
  obtain ⟨s0, a0, n0, c0, xs0, dw0, e0, m0, f0, ys0, du0, rfl, rfl, rd0, dg0, nc0, cm0, dl0, rg0, dh0, ng0, cg0, dk0⟩ := open_rat (hval 0 28 v0 rfl rfl) h0
  simp only [List.append_nil, Rows.uptoBulkAll] at hB
  have le0 : n0 ≤ 1048576 := by have := (rbulk (s := s0) dl0 dk0).1; omega
  have lf0 : m0 ≤ 1048576 := by have := (rbulk (s := s0) dl0 dk0).2; omega
  have nw0 : Nw W (.slice a0 n0 c0) (vl Q xs0) _ := ⟨a0, n0, c0, xs0, rfl, rd0, dg0, nc0, cm0, rfl, le0⟩
  have nv0 : Nw W (.slice e0 m0 f0) (vl Q ys0) _ := ⟨e0, m0, f0, ys0, rfl, rg0, dh0, ng0, cg0, rfl, lf0⟩
  clear hA0 hV hval0 hcond hsized
  refine (ratceils_true W s0 (.slice a0 n0 c0) (.slice e0 m0 f0) _ _ nw0 nv0).mono ?_
  rintro e W' ⟨rfl, bel⟩
  exact ⟨_, rfl, _, _, _, [], _, [], hW', trodAll_mk1 (shut_bool Try.underlying4 _), trodAll_cons_mk (Below.trod laid_out (by kernel_rfl) (of_decide_eq_true (by kernel_rfl)) k0 bel lt0) trodAll_mk0, rfl, bel.frame _, fun h => by cases h⟩

theorem named : Try.pinned.checked.prog.funcNamed Rows.ratCeilsUptoRow.func = some 9 := by kernel_rfl
theorem placed : Try.pinned.checked.prog.funcs[9]? = some Try.f9 := Try.func9
theorem facts : joinedFacts Try.pinned.checked.prog 9 Try.f9 (Rows.OpenSpec.upto Rows.ratCeilsSpec).bare Rows.ratCeilsUptoRow = true := by kernel_rfl
theorem inst : Try.f9.isInstance Try.pinned.checked.prog Rows.ratCeilsUptoRow.origin Rows.ratCeilsUptoRow.targs := of_decide_eq_true (by kernel_rfl)
theorem wrap : Try.f9.isWrapper Try.pinned.checked.prog Rows.ratCeilsUptoRow.wrapper Rows.ratCeilsUptoRow.mainSum := by
  unfold Func.isWrapper
  rw [if_neg (of_decide_eq_false (by kernel_rfl))]
  exact ⟨rfl, rfl⟩
theorem step : ∀ os : Os, os.Started → ∀ (H : Type) (enc : TypeId × Value → H), (∀ a b, enc a = enc b → a = b) → ∀ F : Stop.Interp,
    ReturnsInHanded Rows.ratCeilsUptoRow.assume Try.pinned.checked os 9 .any (Rows.ratCeilsUptoRow.pre enc Try.pinned.checked.prog Try.f9 (Rows.OpenSpec.upto Rows.ratCeilsSpec)) (((Rows.OpenSpec.upto Rows.ratCeilsSpec).at F).post enc Try.pinned.checked.prog Try.f9 Rows.ratCeilsUptoRow.apart Rows.ratCeilsUptoRow.fresh Rows.ratCeilsUptoRow.handsOn Rows.ratCeilsUptoRow.again) :=
  fun os started H enc _ F => by rw [OpenClaim.pre_eq_preRow]; exact lifted os started H enc F

theorem said : Rows.RatCeilsUptoSaid :=
  OpenClaim.holds_of_cond 9 Try.f9 rfl rfl rfl rfl rfl rfl rfl ⟨rfl, rfl, rfl, rfl, rfl⟩ rfl rfl rfl rfl rfl named placed facts inst wrap step

end fnRatCeilsUpto
#print axioms fnRatCeilsUpto.said
end Go.Proofs.Ytpcchagnbkohnaa
