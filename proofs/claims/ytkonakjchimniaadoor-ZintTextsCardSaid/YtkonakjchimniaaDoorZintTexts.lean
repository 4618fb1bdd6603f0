/-
  ZintTexts answers true for every input, wherever the two listed tables read as the row lists them.
-/
import Derived.Test.YtkonakjchimniaaDoorFrame
import Derived.Test.YtkonakjchimniaaDoorOpen
import Derived.Test.YtkonakjchimniaaDoorOpenZ
import Derived.Test.YtkonakjchimniaaDoorZtexts
import Derived.ShutString
import Derived.ChangeMaps5


namespace Go.Proofs.YtkonakjchimniaaDoor
open Go.ChangeShapes Go.WideShapes Go.ChangeAt Go.RowKit Go.Proofs.YtkonakjchimniaaDoor.Num
open Go.ChangeMaps (open_string shut_string)
set_option maxRecDepth 100000
set_option linter.unusedVariables false
namespace fnZintTexts

theorem reads (os : Os) {H : Type} (enc : TypeId × Value → H) : ∃ places, DataW.whole enc Tryd.prog ((laidWorld os).forCall (fun _ _ => 0) ⟨#[], #[Value.string ⟨#[]⟩, .agg #[.bool false, .slice none 0 0]], []⟩).memory Tryd.f8.params.toList Rows.zintTextsSpec.vars false (#[Value.string ⟨#[]⟩, .agg #[.bool false, .slice none 0 0]]).toList 8 = some ([.lit (.string []), .agg [.lit (.bool false), .nil]], [], places) :=
  ⟨[], by kernel_rfl⟩

set_option maxHeartbeats 2000000 in
theorem lifted (os : Os) (started : os.Started) (H : Type) (enc : TypeId × Value → H) (F : Stop.Interp) :
    ReturnsInHanded {} Tryd.checked os 8 .any ((OpenSpec.ofChange Rows.zintTextsSpec).preRow enc Tryd.prog Tryd.f8 Rows.zintTextsRow.domain false Rows.zintTextsRow.laid) (((OpenSpec.ofChange Rows.zintTextsSpec).at F).post enc Tryd.prog Tryd.f8 false true false false) := by
  obtain ⟨places, hx⟩ := reads os enc
  refine returnsInHanded_of_row (C := Tryd.checked) (s := (OpenSpec.ofChange Rows.zintTextsSpec)) own started (by kernel_rfl) Tryd.func8
    (witness_row_atRef (enc := enc) (C := Tryd.checked) false (laidWorld os) #[Value.string ⟨#[]⟩, .agg #[.bool false, .slice none 0 0]] rfl (by kernel_rfl) (by kernel_rfl) (by kernel_rfl)
      (OpenSpec.preRow_of_cond 8 hx (by kernel_rfl) (fun k hk => by cases hk) (by kernel_rfl) (laid_met os _))) ?_
  intro W base args ds gs before hval0 hW _ hcond hsized hL _ _
  have hval : ∀ (j : Nat) t v, Tryd.f8.params[j]? = some t → args[j]? = some v → Value.okWide Tryd.prog W .any base t v := hval0
  have hW' := hW
  obtain ⟨p, q, hA0, hV, rfl, hfz, hnd⟩ := hW
  have hA : DataW.TrodAll enc Tryd.prog W 0 (fun _ => true) true Tryd.f8.params.toList args.toList ds p := hA0
  have hS : (DataW.weightsEach Tryd.prog (Tryd.f8.params.toList ++ []) (ds ++ gs)).all (· ≤ reachBytes) = true := hsized
  rw [Tryd.params8] at hA hval hS
  obtain ⟨v0, vs0, d0, ds0, p0, q0, hargs, rfl, rfl, h0, r0⟩ := trodAll_cons hA
  obtain ⟨v1, vs1, d1, ds1, p1, q1, rfl, rfl, rfl, h1, r1⟩ := trodAll_cons r0
  obtain ⟨rfl, rfl, rfl⟩ := trodAll_nil r1
  obtain rfl : args = #[v0, v1] := by cases args; simp_all
  obtain ⟨rfl, rfl⟩ := trodVars_none hV
  obtain ⟨t0, rfl, rfl, rfl, wt0⟩ := open_string Tryd.underlying9 (hval 0 9 v0 rfl rfl) h0
  have k1 := h1
  have lt1 : ∀ x ∈ p1, x.block < W.heap.size := by obtain ⟨m, hm⟩ := k1; exact DataW.trod_lt m _ _ _ hm
  obtain ⟨s1, a1, n1, c1, xs1, dw1, rfl, rfl, rd1, dg1, nc1, cm1, dl1⟩ := open_zint (hval 1 39 v1 rfl rfl) h1
  have le0 : t0.data.toList.length ≤ reachBytes := sized_string hS (j := 0) (t := 9) rfl rfl
  have le1 : n1 ≤ 17592186043904 := zreach dl1 hS (j := 1) rfl rfl
  have nw1 : Nw W (.slice a1 n1 c1) (vl Q xs1) _ := ⟨a1, n1, c1, xs1, rfl, rd1, dg1, nc1, cm1, rfl, le1⟩
  clear hA0 hV hval0 hcond hsized
  refine (ztexts_true W t0 s1 (.slice a1 n1 c1) _ le0 nw1).mono ?_
  rintro e W' ⟨rfl, bel⟩
  exact ⟨_, rfl, _, _, _, [], _, [], hW', trodAll_mk1 (shut_bool Tryd.underlying4 _), trodAll_cons_mk (shut_string Tryd.underlying9 wt0) (trodAll_cons_mk (Below.trod laid_out (by kernel_rfl) (of_decide_eq_true (by kernel_rfl)) k1 bel lt1) trodAll_mk0), rfl, bel.frame _, fun h => by cases h⟩

theorem named : Tryd.pinned.checked.prog.funcNamed Rows.zintTextsRow.func = some 8 := by kernel_rfl
theorem placed : Tryd.pinned.checked.prog.funcs[8]? = some Tryd.f8 := Tryd.func8
theorem facts : joinedFacts Tryd.pinned.checked.prog 8 Tryd.f8 (OpenSpec.ofChange Rows.zintTextsSpec).bare Rows.zintTextsRow = true := by kernel_rfl
theorem inst : Tryd.f8.isInstance Tryd.pinned.checked.prog Rows.zintTextsRow.origin Rows.zintTextsRow.targs := of_decide_eq_true (by kernel_rfl)
theorem wrap : Tryd.f8.isWrapper Tryd.pinned.checked.prog Rows.zintTextsRow.wrapper Rows.zintTextsRow.mainSum := by
  unfold Func.isWrapper
  rw [if_neg (of_decide_eq_false (by kernel_rfl))]
  exact ⟨rfl, rfl⟩
theorem step : ∀ os : Os, os.Started → ∀ (H : Type) (enc : TypeId × Value → H), (∀ a b, enc a = enc b → a = b) → ∀ F : Stop.Interp,
    ReturnsInHanded Rows.zintTextsRow.assume Tryd.pinned.checked os 8 .any (Rows.zintTextsRow.pre enc Tryd.pinned.checked.prog Tryd.f8 (OpenSpec.ofChange Rows.zintTextsSpec)) (((OpenSpec.ofChange Rows.zintTextsSpec).at F).post enc Tryd.pinned.checked.prog Tryd.f8 Rows.zintTextsRow.apart Rows.zintTextsRow.fresh Rows.zintTextsRow.handsOn Rows.zintTextsRow.again) :=
  fun os started H enc _ F => by rw [OpenClaim.pre_eq_preRow]; exact lifted os started H enc F

theorem said : Rows.ZintTextsSaid :=
  OpenClaim.holds_of_cond 8 Tryd.f8 rfl rfl rfl rfl rfl rfl rfl ⟨rfl, rfl, rfl, rfl, rfl⟩ rfl rfl rfl rfl rfl named placed facts inst wrap step

theorem plain (f : FuncId) (fn : Func) (hf : Tryd.pinned.checked.prog.funcNamed "cutwater/cutwaterlaw02.ZintTexts" = some f) (hfn : Tryd.pinned.checked.prog.funcs[f]? = some fn) :
    false = Tryd.pinned.checked.prog.looks [] ∧ ∀ (j : Nat) t, fn.params[j]? = some t → Tryd.pinned.checked.prog.wantsStandIn t = false := by
  obtain rfl : f = 8 := Option.some.inj ((show Tryd.prog.funcNamed "cutwater/cutwaterlaw02.ZintTexts" = some 8 by kernel_rfl).symm.trans hf) |>.symm
  obtain rfl : fn = Tryd.f8 := (Option.some.inj (Tryd.func8.symm.trans hfn)).symm
  refine ⟨by kernel_rfl, fun j t ht => ?_⟩
  rw [Tryd.params8] at ht
  have hm : t ∈ [9, 39] := by simpa using Array.mem_of_getElem? ht
  have hall : ([9, 39].all fun u => !Tryd.prog.wantsStandIn u) = true := by kernel_rfl
  exact (show Tryd.prog.wantsStandIn t = false by simpa using List.all_eq_true.1 hall t hm)

theorem card : Rows.ZintTextsCardSaid :=
  Claim7.holds_tied_plain_at .later [] _ _ _ _ said (fun _ h => by cases h) (by kernel_rfl) (fun _ h => by cases h) zintTexts_row_tie rfl ⟨rfl, rfl⟩ (by kernel_rfl) rfl plain (by kernel_rfl)
end fnZintTexts
#print axioms fnZintTexts.card
end Go.Proofs.YtkonakjchimniaaDoor
