/-
  RatField answers true for every input of bulk at most 1048576.
-/
import Derived.Test.YtpcchagnbkohnaaFrameP
import Derived.Test.YtpcchagnbkohnaaOpen
import Derived.Test.YtpcchagnbkohnaaOpenZ
import Derived.Test.YtpcchagnbkohnaaOpenR
import Derived.Test.YtpcchagnbkohnaaRatFieldW


namespace Go.Proofs.Ytpcchagnbkohnaa
open Go.ChangeShapes Go.WideShapes Go.ChangeAt Go.RowKit Go.Proofs.Ytpcchagnbkohnaa.Num
set_option maxRecDepth 100000
set_option linter.unusedVariables false
namespace fnRatFieldUpto

theorem reads (os : Os) {H : Type} (enc : TypeId × Value → H) : ∃ places, DataW.whole enc Try.prog ((World.holding Try.prog os ⟨#[], #[], []⟩).forCall (fun _ _ => 0) ⟨#[], #[Value.agg #[.bool false, .slice none 0 0, .slice none 0 0], .agg #[.bool false, .slice none 0 0, .slice none 0 0], .agg #[.bool false, .slice none 0 0, .slice none 0 0]], []⟩).memory Try.f7.params.toList Rows.ratFieldSpec.vars false (#[Value.agg #[.bool false, .slice none 0 0, .slice none 0 0], .agg #[.bool false, .slice none 0 0, .slice none 0 0], .agg #[.bool false, .slice none 0 0, .slice none 0 0]]).toList 8 = some ([.agg [.agg [.lit (.bool false), .nil], .nil], .agg [.agg [.lit (.bool false), .nil], .nil], .agg [.agg [.lit (.bool false), .nil], .nil]], [], places) :=
  ⟨[], by kernel_rfl⟩

set_option maxHeartbeats 2000000 in
theorem lifted (os : Os) (started : os.Started) (H : Type) (enc : TypeId × Value → H) (F : Stop.Interp) :
    ReturnsInHanded {} Try.checked os 7 .any ((Rows.OpenSpec.upto Rows.ratFieldSpec).preRow enc Try.prog Try.f7 Rows.ratFieldUptoRow.domain false Rows.ratFieldUptoRow.laid) (((Rows.OpenSpec.upto Rows.ratFieldSpec).at F).post enc Try.prog Try.f7 false true false false) := by
  obtain ⟨places, hx⟩ := reads os enc
  refine returnsInHanded_of_row (C := Try.checked) (s := (Rows.OpenSpec.upto Rows.ratFieldSpec)) own started (by kernel_rfl) Try.func7
    (witness_row_atRef (enc := enc) (C := Try.checked) false (World.holding Try.prog os ⟨#[], #[], []⟩) #[Value.agg #[.bool false, .slice none 0 0, .slice none 0 0], .agg #[.bool false, .slice none 0 0, .slice none 0 0], .agg #[.bool false, .slice none 0 0, .slice none 0 0]] rfl (by kernel_rfl) (by kernel_rfl) (by kernel_rfl)
      (OpenSpec.preRow_of_cond 8 hx (by kernel_rfl) (fun k hk => by cases hk; kernel_rfl) (by kernel_rfl) (none_laid _))) ?_
  intro W base args ds gs before hval0 hW _ hcond hsized hL _ _
  have hval : ∀ (j : Nat) t v, Try.f7.params[j]? = some t → args[j]? = some v → Value.okWide Try.prog W .any base t v := hval0
  have hW' := hW
  obtain ⟨p, q, hA0, hV, rfl, hfz, hnd⟩ := hW
  have hA : DataW.TrodAll enc Try.prog W 0 (fun _ => true) true Try.f7.params.toList args.toList ds p := hA0
  have hS : (DataW.weightsEach Try.prog (Try.f7.params.toList ++ []) (ds ++ gs)).all (· ≤ reachBytes) = true := hsized
  have hB := bulk_of (hcond _ rfl)
  rw [Try.params7] at hA hval hS
  obtain ⟨v0, vs0, d0, ds0, p0, q0, hargs, rfl, rfl, h0, r0⟩ := trodAll_cons hA
  obtain ⟨v1, vs1, d1, ds1, p1, q1, rfl, rfl, rfl, h1, r1⟩ := trodAll_cons r0
  obtain ⟨v2, vs2, d2, ds2, p2, q2, rfl, rfl, rfl, h2, r2⟩ := trodAll_cons r1
  obtain ⟨rfl, rfl, rfl⟩ := trodAll_nil r2
  obtain rfl : args = #[v0, v1, v2] := by cases args; simp_all
  obtain ⟨rfl, rfl⟩ := trodVars_none hV
  have k0 := h0
  have lt0 : ∀ x ∈ p0, x.block < W.heap.size := by obtain ⟨m, hm⟩ := k0; exact DataW.trod_lt m _ _ _ hm
  obtain ⟨s0, a0, n0, c0, xs0, dw0, e0, m0, f0, ys0, du0, rfl, rfl, rd0, dg0, nc0, cm0, dl0, rg0, dh0, ng0, cg0, dk0⟩ := open_rat (hval 0 28 v0 rfl rfl) h0
  have k1 := h1
  have lt1 : ∀ x ∈ p1, x.block < W.heap.size := by obtain ⟨m, hm⟩ := k1; exact DataW.trod_lt m _ _ _ hm
  obtain ⟨s1, a1, n1, c1, xs1, dw1, e1, m1, f1, ys1, du1, rfl, rfl, rd1, dg1, nc1, cm1, dl1, rg1, dh1, ng1, cg1, dk1⟩ := open_rat (hval 1 28 v1 rfl rfl) h1
  have k2 := h2
  have lt2 : ∀ x ∈ p2, x.block < W.heap.size := by obtain ⟨m, hm⟩ := k2; exact DataW.trod_lt m _ _ _ hm
  obtain ⟨s2, a2, n2, c2, xs2, dw2, e2, m2, f2, ys2, du2, rfl, rfl, rd2, dg2, nc2, cm2, dl2, rg2, dh2, ng2, cg2, dk2⟩ := open_rat (hval 2 28 v2 rfl rfl) h2
  simp only [List.append_nil, Rows.uptoBulkAll] at hB
  have le0 : n0 ≤ 1048576 := by have := (rbulk (s := s0) dl0 dk0).1; omega
  have lf0 : m0 ≤ 1048576 := by have := (rbulk (s := s0) dl0 dk0).2; omega
  have nw0 : Nw W (.slice a0 n0 c0) (vl Q xs0) _ := ⟨a0, n0, c0, xs0, rfl, rd0, dg0, nc0, cm0, rfl, le0⟩
  have nv0 : Nw W (.slice e0 m0 f0) (vl Q ys0) _ := ⟨e0, m0, f0, ys0, rfl, rg0, dh0, ng0, cg0, rfl, lf0⟩
  have le1 : n1 ≤ 1048576 := by have := (rbulk (s := s1) dl1 dk1).1; omega
  have lf1 : m1 ≤ 1048576 := by have := (rbulk (s := s1) dl1 dk1).2; omega
  have nw1 : Nw W (.slice a1 n1 c1) (vl Q xs1) _ := ⟨a1, n1, c1, xs1, rfl, rd1, dg1, nc1, cm1, rfl, le1⟩
  have nv1 : Nw W (.slice e1 m1 f1) (vl Q ys1) _ := ⟨e1, m1, f1, ys1, rfl, rg1, dh1, ng1, cg1, rfl, lf1⟩
  have le2 : n2 ≤ 1048576 := by have := (rbulk (s := s2) dl2 dk2).1; omega
  have lf2 : m2 ≤ 1048576 := by have := (rbulk (s := s2) dl2 dk2).2; omega
  have nw2 : Nw W (.slice a2 n2 c2) (vl Q xs2) _ := ⟨a2, n2, c2, xs2, rfl, rd2, dg2, nc2, cm2, rfl, le2⟩
  have nv2 : Nw W (.slice e2 m2 f2) (vl Q ys2) _ := ⟨e2, m2, f2, ys2, rfl, rg2, dh2, ng2, cg2, rfl, lf2⟩
  clear hA0 hV hval0 hcond hsized
  refine (ratfield_true W s0 (.slice a0 n0 c0) (.slice e0 m0 f0) s1 (.slice a1 n1 c1) (.slice e1 m1 f1) s2 (.slice a2 n2 c2) (.slice e2 m2 f2) _ _ _ _ _ _ nw0 nv0 nw1 nv1 nw2 nv2).mono ?_
  rintro e W' ⟨rfl, bel⟩
  exact ⟨_, rfl, _, _, _, [], _, [], hW', trodAll_mk1 (shut_bool Try.underlying4 _), trodAll_cons_mk (Below.trod laid_out (by kernel_rfl) (of_decide_eq_true (by kernel_rfl)) k0 bel lt0) (trodAll_cons_mk (Below.trod laid_out (by kernel_rfl) (of_decide_eq_true (by kernel_rfl)) k1 bel lt1) (trodAll_cons_mk (Below.trod laid_out (by kernel_rfl) (of_decide_eq_true (by kernel_rfl)) k2 bel lt2) trodAll_mk0)), rfl, bel.frame _, fun h => by cases h⟩

theorem named : Try.pinned.checked.prog.funcNamed Rows.ratFieldUptoRow.func = some 7 := by kernel_rfl
theorem placed : Try.pinned.checked.prog.funcs[7]? = some Try.f7 := Try.func7
theorem facts : joinedFacts Try.pinned.checked.prog 7 Try.f7 (Rows.OpenSpec.upto Rows.ratFieldSpec).bare Rows.ratFieldUptoRow = true := by kernel_rfl
theorem inst : Try.f7.isInstance Try.pinned.checked.prog Rows.ratFieldUptoRow.origin Rows.ratFieldUptoRow.targs := of_decide_eq_true (by kernel_rfl)
theorem wrap : Try.f7.isWrapper Try.pinned.checked.prog Rows.ratFieldUptoRow.wrapper Rows.ratFieldUptoRow.mainSum := by
  unfold Func.isWrapper
  rw [if_neg (of_decide_eq_false (by kernel_rfl))]
  exact ⟨rfl, rfl⟩
theorem step : ∀ os : Os, os.Started → ∀ (H : Type) (enc : TypeId × Value → H), (∀ a b, enc a = enc b → a = b) → ∀ F : Stop.Interp,
    ReturnsInHanded Rows.ratFieldUptoRow.assume Try.pinned.checked os 7 .any (Rows.ratFieldUptoRow.pre enc Try.pinned.checked.prog Try.f7 (Rows.OpenSpec.upto Rows.ratFieldSpec)) (((Rows.OpenSpec.upto Rows.ratFieldSpec).at F).post enc Try.pinned.checked.prog Try.f7 Rows.ratFieldUptoRow.apart Rows.ratFieldUptoRow.fresh Rows.ratFieldUptoRow.handsOn Rows.ratFieldUptoRow.again) :=
  fun os started H enc _ F => by rw [OpenClaim.pre_eq_preRow]; exact lifted os started H enc F

theorem said : Rows.RatFieldUptoSaid :=
  OpenClaim.holds_of_cond 7 Try.f7 rfl rfl rfl rfl rfl rfl rfl ⟨rfl, rfl, rfl, rfl, rfl⟩ rfl rfl rfl rfl rfl named placed facts inst wrap step

end fnRatFieldUpto
#print axioms fnRatFieldUpto.said
end Go.Proofs.Ytpcchagnbkohnaa
