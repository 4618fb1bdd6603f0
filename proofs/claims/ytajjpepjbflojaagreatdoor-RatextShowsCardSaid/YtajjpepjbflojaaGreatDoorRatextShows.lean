/-
  RatextShows answers true for every input, wherever the two listed tables read as the row lists them.
-/
import Derived.Test.YtajjpepjbflojaaGreatDoorFrameT
import Derived.Test.YtajjpepjbflojaaGreatDoorOpen
import Derived.Test.YtajjpepjbflojaaGreatDoorOpenZ
import Derived.Test.YtajjpepjbflojaaGreatDoorOpenR
import Derived.Test.YtajjpepjbflojaaGreatDoorRtShowsW


namespace Go.Proofs.YtajjpepjbflojaaGreatDoor
open Go.ChangeShapes Go.WideShapes Go.ChangeAt Go.RowKit Go.Proofs.YtajjpepjbflojaaGreatDoor.Num
set_option maxRecDepth 100000
set_option linter.unusedVariables false
namespace fnRatextShows

theorem reads (os : Os) {H : Type} (enc : TypeId × Value → H) : ∃ places, DataW.whole enc Tryz.prog ((laidWorld os).forCall (fun _ _ => 0) ⟨#[], #[Value.agg #[.bool false, .slice none 0 0, .slice none 0 0]], []⟩).memory Tryz.f3.params.toList Rows.ratextShowsSpec.vars false (#[Value.agg #[.bool false, .slice none 0 0, .slice none 0 0]]).toList 8 = some ([.agg [.agg [.lit (.bool false), .nil], .nil]], [], places) :=
  ⟨[], by kernel_rfl⟩

set_option maxHeartbeats 2000000 in
theorem lifted (os : Os) (started : os.Started) (H : Type) (enc : TypeId × Value → H) (F : Stop.Interp) :
    ReturnsInHanded {} Tryz.checked os 3 .any ((OpenSpec.ofChange Rows.ratextShowsSpec).preRow enc Tryz.prog Tryz.f3 Rows.ratextShowsRow.domain false Rows.ratextShowsRow.laid) (((OpenSpec.ofChange Rows.ratextShowsSpec).at F).post enc Tryz.prog Tryz.f3 false true false false) := by
  obtain ⟨places, hx⟩ := reads os enc
  refine returnsInHanded_of_row (C := Tryz.checked) (s := (OpenSpec.ofChange Rows.ratextShowsSpec)) own started (by kernel_rfl) Tryz.func3
    (witness_row_atRef (enc := enc) (C := Tryz.checked) false (laidWorld os) #[Value.agg #[.bool false, .slice none 0 0, .slice none 0 0]] rfl (by kernel_rfl) (by kernel_rfl) (by kernel_rfl)
      (OpenSpec.preRow_of_cond 8 hx (by kernel_rfl) (fun k hk => by cases hk) (by kernel_rfl) (laid_met os _))) ?_
  intro W base args ds gs before hval0 hW _ hcond hsized hL _ _
  have hval : ∀ (j : Nat) t v, Tryz.f3.params[j]? = some t → args[j]? = some v → Value.okWide Tryz.prog W .any base t v := hval0
  have hW' := hW
  obtain ⟨p, q, hA0, hV, rfl, hfz, hnd⟩ := hW
  have hA : DataW.TrodAll enc Tryz.prog W 0 (fun _ => true) true Tryz.f3.params.toList args.toList ds p := hA0
  have hS : (DataW.weightsEach Tryz.prog (Tryz.f3.params.toList ++ []) (ds ++ gs)).all (· ≤ reachBytes) = true := hsized
  rw [Tryz.params3] at hA hval hS
  obtain ⟨v0, vs0, d0, ds0, p0, q0, hargs, rfl, rfl, h0, r0⟩ := trodAll_cons hA
  obtain ⟨rfl, rfl, rfl⟩ := trodAll_nil r0
  obtain rfl : args = #[v0] := by cases args; simp_all
  obtain ⟨rfl, rfl⟩ := trodVars_none hV
  have k0 := h0
  have lt0 : ∀ x ∈ p0, x.block < W.heap.size := by obtain ⟨m, hm⟩ := k0; exact DataW.trod_lt m _ _ _ hm
  obtain ⟨s0, a0, n0, c0, xs0, dw0, e0, m0, f0, ys0, du0, rfl, rfl, rd0, dg0, nc0, cm0, dl0, rg0, dh0, ng0, cg0, dk0⟩ := open_rat (hval 0 26 v0 rfl rfl) h0
  have le0 : n0 ≤ 17592186043904 := (rreach dl0 dk0 hS (j := 0) rfl rfl).1
  have lf0 : m0 ≤ 17592186043904 := (rreach dl0 dk0 hS (j := 0) rfl rfl).2
  have nw0 : Nw W (.slice a0 n0 c0) (vl Q xs0) _ := ⟨a0, n0, c0, xs0, rfl, rd0, dg0, nc0, cm0, rfl, le0⟩
  have nv0 : Nw W (.slice e0 m0 f0) (vl Q ys0) _ := ⟨e0, m0, f0, ys0, rfl, rg0, dh0, ng0, cg0, rfl, lf0⟩
  clear hA0 hV hval0 hcond hsized
  refine (rshows_true W s0 (.slice a0 n0 c0) (.slice e0 m0 f0) _ _ nw0 nv0 (ev_laid hL)).mono ?_
  rintro e W' ⟨rfl, bel⟩
  exact ⟨_, rfl, _, _, _, [], _, [], hW', trodAll_mk1 (shut_bool Tryz.underlying4 _), trodAll_cons_mk (Below.trod laid_out (by kernel_rfl) (of_decide_eq_true (by kernel_rfl)) k0 bel lt0) trodAll_mk0, rfl, bel.frame _, fun h => by cases h⟩

theorem named : Tryz.pinned.checked.prog.funcNamed Rows.ratextShowsRow.func = some 3 := by kernel_rfl
theorem placed : Tryz.pinned.checked.prog.funcs[3]? = some Tryz.f3 := Tryz.func3
theorem facts : joinedFacts Tryz.pinned.checked.prog 3 Tryz.f3 (OpenSpec.ofChange Rows.ratextShowsSpec).bare Rows.ratextShowsRow = true := by kernel_rfl
theorem inst : Tryz.f3.isInstance Tryz.pinned.checked.prog Rows.ratextShowsRow.origin Rows.ratextShowsRow.targs := of_decide_eq_true (by kernel_rfl)
theorem wrap : Tryz.f3.isWrapper Tryz.pinned.checked.prog Rows.ratextShowsRow.wrapper Rows.ratextShowsRow.mainSum := by
  unfold Func.isWrapper
  rw [if_neg (of_decide_eq_false (by kernel_rfl))]
  exact ⟨rfl, rfl⟩
theorem step : ∀ os : Os, os.Started → ∀ (H : Type) (enc : TypeId × Value → H), (∀ a b, enc a = enc b → a = b) → ∀ F : Stop.Interp,
    ReturnsInHanded Rows.ratextShowsRow.assume Tryz.pinned.checked os 3 .any (Rows.ratextShowsRow.pre enc Tryz.pinned.checked.prog Tryz.f3 (OpenSpec.ofChange Rows.ratextShowsSpec)) (((OpenSpec.ofChange Rows.ratextShowsSpec).at F).post enc Tryz.pinned.checked.prog Tryz.f3 Rows.ratextShowsRow.apart Rows.ratextShowsRow.fresh Rows.ratextShowsRow.handsOn Rows.ratextShowsRow.again) :=
  fun os started H enc _ F => by rw [OpenClaim.pre_eq_preRow]; exact lifted os started H enc F

theorem said : Rows.RatextShowsSaid :=
  OpenClaim.holds_of_cond 3 Tryz.f3 rfl rfl rfl rfl rfl rfl rfl ⟨rfl, rfl, rfl, rfl, rfl⟩ rfl rfl rfl rfl rfl named placed facts inst wrap step

theorem plain (f : FuncId) (fn : Func) (hf : Tryz.pinned.checked.prog.funcNamed "cutwater/cutwaterlaw04.RatextShows" = some f) (hfn : Tryz.pinned.checked.prog.funcs[f]? = some fn) :
    true = Tryz.pinned.checked.prog.looks [] ∧ ∀ (j : Nat) t, fn.params[j]? = some t → Tryz.pinned.checked.prog.wantsStandIn t = false := by
  obtain rfl : f = 3 := Option.some.inj ((show Tryz.prog.funcNamed "cutwater/cutwaterlaw04.RatextShows" = some 3 by kernel_rfl).symm.trans hf) |>.symm
  obtain rfl : fn = Tryz.f3 := (Option.some.inj (Tryz.func3.symm.trans hfn)).symm
  refine ⟨by kernel_rfl, fun j t ht => ?_⟩
  rw [Tryz.params3] at ht
  have hm : t ∈ [26] := by simpa using Array.mem_of_getElem? ht
  have hall : ([26].all fun u => !Tryz.prog.wantsStandIn u) = true := by kernel_rfl
  exact (show Tryz.prog.wantsStandIn t = false by simpa using List.all_eq_true.1 hall t hm)

theorem card : Rows.RatextShowsCardSaid :=
  Claim7.holds_tied_plain_at .later [] _ _ _ _ said (fun _ h => by cases h) (by kernel_rfl) (fun _ h => by cases h) ratextShows_row_tie rfl ⟨rfl, rfl⟩ (by kernel_rfl) rfl plain (by kernel_rfl)
end fnRatextShows
#print axioms fnRatextShows.card
end Go.Proofs.YtajjpepjbflojaaGreatDoor
