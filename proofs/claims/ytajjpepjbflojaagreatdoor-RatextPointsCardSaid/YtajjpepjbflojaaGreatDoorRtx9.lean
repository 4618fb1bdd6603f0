/-
  law04's examples.
-/
import Derived.Test.YtajjpepjbflojaaGreatDoorRtx8
import Derived.Test.YtajjpepjbflojaaGreatDoorBundleG


namespace Go.Proofs.YtajjpepjbflojaaGreatDoor
open Go.RowKit Go.Proofs.YtajjpepjbflojaaGreatDoor.Num
set_option linter.unusedVariables false
set_option linter.unusedSimpArgs false
set_option maxRecDepth 100000

theorem ps_ok {S : ByteArray} {r : Rat} {w : World} (h0 : rcode S.data.toList = 0) (hv : (rtk S.data.toList).1.val = r) (hS : S.size ≤ 1000000000000000000) (he : Ev w) :
    Calls Tryz.prog 13 #[.string S] w fun e w' => ∃ v, e = .returned (.tuple #[v, .int .i64 0]) ∧ Rc w' v r 600 ∧ Below w.heap.size w w' := by
  refine (rparse_any S w hS he).mono fun e w' h => ?_
  obtain ⟨v, a, b⟩ := h.2.1 h0
  exact ⟨v, a, by rw [← hv]; exact b, h.2.2⟩
theorem ps_err {S : ByteArray} {c : Nat} {w : World} (h0 : rcode S.data.toList = c) (hc : c ≠ 0) (hS : S.size ≤ 1000000000000000000) (he : Ev w) :
    Calls Tryz.prog 13 #[.string S] w fun e w' => e = .returned (.tuple #[rv false (.slice none 0 0) (.slice none 0 0), .int .i64 (c : Int)]) ∧ Below w.heap.size w w' := by
  refine (rparse_any S w hS he).mono fun e w' h => ?_
  have h1 := h.1 (by rw [h0]; exact hc)
  rw [h0] at h1
  exact ⟨h1, h.2.2⟩

set_option maxHeartbeats 2000000 in
theorem reads_true {S W : ByteArray} {w : World} (h0 : rcode S.data.toList = 0) (hW : W.data.toList = rtxt (rtk S.data.toList).1.val) (hS : S.size ≤ 1000000000000000000) (he : Ev w) :
    Calls Tryz.prog 14 #[.string S, .string W] w fun e w' => e = .returned (.bool true) ∧ Below w.heap.size w w' := by
  obtain ⟨r, hr⟩ : ∃ r, (rtk S.data.toList).1.val = r := ⟨_, rfl⟩
  have PS := hide (ps_ok h0 hr hS he)
  rw [hr] at hW
  have HW := hide hW
  clear h0 hW hr he
  go_enter Tryz.func14, Tryz.ntmps14
  go_wp2_with fail
  refine PS.out.mono ?_
  rintro e w1 ⟨v, rfl, c1, b1⟩
  obtain ⟨sg, A, n, c, D, m, d, rfl, -, -, -⟩ := c1.lets
  have b2 : Below w1.heap.size w1 (w1.alloc (rbox sg (.slice A n c) (.slice D m d))) := (Below.refl _ _).alloc (Nat.le_refl _) _
  have B := hide (Below.step1 b1 b2)
  have TX := hide (rtext_r (c1.step b2).ra (by omega) (by omega))
  obtain ⟨p0, p1, p2, -, -, -⟩ := (Rk.new w1 sg (.slice A n c) (.slice D m d)).all
  clear b1 b2 c1 PS
  go_wp2_with fail
  refine TX.out.mono ?_
  rintro e w2 ⟨U, rfl, hU, b1⟩
  have B := hide (Below.step B.out B.out.size b1)
  have t1 : (U.toList == W.toList) = true := by rw [toList_data, toList_data, hU.out, HW.out]; exact beq_self_eq_true _
  clear b1 hU TX p0 p1 p2 HW
  go_wp2_with fail
  go_ret
  exact ⟨rfl, B.out⟩

set_option maxHeartbeats 2000000 in
theorem refuses_true {S : ByteArray} {c : Int} {w : World} (n : Nat) (hn : (n : Int) = c) (h0 : rcode S.data.toList = n) (hc : n ≠ 0) (hS : S.size ≤ 1000000000000000000) (he : Ev w) :
    Calls Tryz.prog 15 #[.string S, .int .i64 c] w fun e w' => e = .returned (.bool true) ∧ Below w.heap.size w w' := by
  have PS := hide (ps_err h0 hc hS he)
  rw [hn] at PS
  clear h0 he hn
  go_enter Tryz.func15, Tryz.ntmps15
  go_wp2_with fail
  refine PS.out.mono ?_
  rintro e w1 ⟨rfl, b1⟩
  have b2 : Below w1.heap.size w1 (w1.alloc (rbox false (.slice none 0 0) (.slice none 0 0))) := (Below.refl _ _).alloc (Nat.le_refl _) _
  have B := hide (Below.step1 b1 b2)
  obtain ⟨p0, p1, p2, -, -, -⟩ := (Rk.new w1 false (.slice none 0 0) (.slice none 0 0)).all
  clear b1 b2 PS
  go_wp2_with fail
  refine (rsame_zero _).mono ?_
  rintro e w2 ⟨rfl, b1⟩
  have B := hide (Below.step B.out B.out.size b1)
  clear b1 p0 p1 p2
  go_wp2_with fail
  go_ret
  exact ⟨rfl, B.out⟩

set_option maxHeartbeats 4000000 in
theorem tspeaks_true (w : World) (he : Ev w) : Calls Tryz.prog 6 #[] w fun e w' => e = .returned (.bool true) ∧ Below w.heap.size w w' := by
  have B := hide (Below.refl w.heap.size w)
  have E := hide he
  clear he
  go_enter Tryz.func6, Tryz.ntmps6
  go_wp2_with fail
  refine (reads_true (S := ⟨#[45, 54, 47, 52]⟩) (W := ⟨#[45, 51, 47, 50]⟩) (by decide +kernel) (by decide +kernel) (by decide +kernel) E.out).mono ?_
  rintro e w1 ⟨rfl, b1⟩
  replace E := hide (E.out.step b1)
  replace B := hide (Below.step B.out B.out.size b1)
  clear b1
  go_wp2_with fail
  refine (reads_true (S := ⟨#[49, 50, 46, 53, 48]⟩) (W := ⟨#[50, 53, 47, 50]⟩) (by decide +kernel) (by decide +kernel) (by decide +kernel) E.out).mono ?_
  rintro e w2 ⟨rfl, b1⟩
  replace E := hide (E.out.step b1)
  replace B := hide (Below.step B.out B.out.size b1)
  clear b1
  go_wp2_with fail
  refine (reads_true (S := ⟨#[50, 46, 53, 101, 45, 49]⟩) (W := ⟨#[49, 47, 52]⟩) (by decide +kernel) (by decide +kernel) (by decide +kernel) E.out).mono ?_
  rintro e w3 ⟨rfl, b1⟩
  replace E := hide (E.out.step b1)
  replace B := hide (Below.step B.out B.out.size b1)
  clear b1
  go_wp2_with fail
  refine (reads_true (S := ⟨#[48, 48, 55, 69, 50]⟩) (W := ⟨#[55, 48, 48]⟩) (by decide +kernel) (by decide +kernel) (by decide +kernel) E.out).mono ?_
  rintro e w4 ⟨rfl, b1⟩
  replace E := hide (E.out.step b1)
  replace B := hide (Below.step B.out B.out.size b1)
  clear b1
  go_wp2_with fail
  refine (refuses_true (S := ⟨#[46, 53]⟩) (c := 5) 5 rfl (by decide +kernel) (by decide) (by decide +kernel) E.out).mono ?_
  rintro e w5 ⟨rfl, b1⟩
  replace E := hide (E.out.step b1)
  replace B := hide (Below.step B.out B.out.size b1)
  clear b1
  go_wp2_with fail
  refine (refuses_true (S := ⟨#[49, 47, 45, 50]⟩) (c := 5) 5 rfl (by decide +kernel) (by decide) (by decide +kernel) E.out).mono ?_
  rintro e w6 ⟨rfl, b1⟩
  replace E := hide (E.out.step b1)
  replace B := hide (Below.step B.out B.out.size b1)
  clear b1
  go_wp2_with fail
  refine (refuses_true (S := ⟨#[49, 101]⟩) (c := 5) 5 rfl (by decide +kernel) (by decide) (by decide +kernel) E.out).mono ?_
  rintro e w7 ⟨rfl, b1⟩
  replace E := hide (E.out.step b1)
  replace B := hide (Below.step B.out B.out.size b1)
  clear b1
  go_wp2_with fail
  refine (refuses_true (S := ⟨#[49, 47, 48]⟩) (c := 3) 3 rfl (by decide +kernel) (by decide) (by decide +kernel) E.out).mono ?_
  rintro e w8 ⟨rfl, b1⟩
  replace B := hide (Below.step B.out B.out.size b1)
  clear b1 E
  go_wp2_with fail
  go_ret
  exact ⟨rfl, B.out⟩
end Go.Proofs.YtajjpepjbflojaaGreatDoor
