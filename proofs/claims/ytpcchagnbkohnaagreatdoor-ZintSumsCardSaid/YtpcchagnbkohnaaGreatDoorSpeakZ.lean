/-
  Whole numbers: the document's examples.
-/
import Derived.Test.YtpcchagnbkohnaaGreatDoorZrefE
import Derived.Test.YtpcchagnbkohnaaGreatDoorBundleE
import Derived.Test.YtpcchagnbkohnaaGreatDoorBundleD
import Derived.Test.YtpcchagnbkohnaaGreatDoorZint7


namespace Go.Proofs.YtpcchagnbkohnaaGreatDoor
open Go.RowKit Go.Proofs.YtpcchagnbkohnaaGreatDoor.Num
set_option linter.unusedVariables false
set_option maxRecDepth 100000

theorem zq_1 : zq (-7) 2 = -4 := by decide
theorem zr_1 : zr (-7) 2 = 1 := by decide
theorem zq_2 : zq 7 (-2) = -4 := by decide
theorem zr_2 : zr 7 (-2) = -1 := by decide
theorem zp_0 : zpcode [45, 48] = 0 ∧ zval [45, 48] = 0 := by decide +kernel
theorem zt_0 : ztxt (-9223372036854775808) = [45, 57, 50, 50, 51, 51, 55, 50, 48, 51, 54, 56, 53, 52, 55, 55, 53, 56, 48, 56] := by
  have h : cn 10 9223372036854775808 = [8, 0, 8, 5, 7, 7, 4, 5, 8, 6, 3, 0, 2, 7, 3, 3, 2, 2, 9] := cn_lit (by omega) (dg_lit (by decide +kernel)) (by decide +kernel) (by decide)
  unfold ztxt dtext
  rw [if_pos (by omega), show (-9223372036854775808 : Int).natAbs = 9223372036854775808 from rfl, if_neg (by omega), h]
  rfl
set_option maxHeartbeats 8000000 in
theorem zspeaks_true (w : World) : Calls Tryz.prog 7 #[] w fun e w' => e = .returned (.bool true) ∧ Below w.heap.size w w' := by
  go_enter Tryz.func7, Tryz.ntmps7
  go_wp2_with fail
  refine (zof_any w (-7) (by omega) (by omega)).mono ?_
  rintro e w1 ⟨v1, rfl, h1, b1⟩
  have H1 := hide h1
  have B1 := hide b1
  clear h1 b1
  go_wp2_with fail
  refine (zof_any w1 2 (by omega) (by omega)).mono ?_
  rintro e w2 ⟨v2, rfl, h2, b2⟩
  have D := hide (zdiv_any (K := 1) (H1.out.step b2).za h2.za (by omega) (by omega) (by omega) (by omega))
  have B2 := hide (B1.out.trans (b2.mono B1.out.size))
  clear h2 b2 H1 B1
  go_wp2_with fail
  refine D.out.mono ?_
  rintro e w3 ⟨q, r, rfl, hq, hr, b3⟩
  rw [zq_1] at hq
  rw [zr_1] at hr
  obtain ⟨A1, n1, c1, rfl, -⟩ := hq.lw (by omega)
  obtain ⟨A2, n2, c2, rfl, -⟩ := hr.lw (by omega)
  have B3 := hide (B2.out.trans (b3.mono B2.out.size))
  have HQ := hide hq
  have HR := hide hr
  clear hq hr b3 D B2
  simp only [show decide ((-4 : Int) < 0) = true from rfl, show decide ((1 : Int) < 0) = false from rfl] at HQ HR ⊢
  go_wp2_with fail
  obtain ⟨x4, y1, y2⟩ := box2 w3 true false A1 A2 n1 c1 n2 c2
  generalize (w3.alloc (.cells #[.bool true, .slice A1 n1 c1] 24)).alloc (.cells #[.bool false, .slice A2 n2 c2] 24) = w4 at *
  have HQ := hide (HQ.out.step x4)
  have HR := hide (HR.out.step x4)
  have B4 := hide (B3.out.trans (x4.mono B3.out.size))
  have Y1 := hide y1
  have Y2 := hide y2
  generalize w3.heap.size = g1 at *
  clear x4 y1 y2 B3
  refine (zof_any w4 7 (by omega) (by omega)).mono ?_
  rintro e w5 ⟨v5, rfl, h5, b5⟩
  have HQ := hide (HQ.out.step b5)
  have HR := hide (HR.out.step b5)
  have Y1 := hide (Y1.out.step b5)
  have Y2 := hide (Y2.out.step b5)
  have B5 := hide (B4.out.trans (b5.mono B4.out.size))
  have H5 := hide h5
  clear h5 b5 B4
  go_wp2_with fail
  refine (zof_any w5 (-2) (by omega) (by omega)).mono ?_
  rintro e w6 ⟨v6, rfl, h6, b6⟩
  have D := hide (zdiv_any (K := 1) (H5.out.step b6).za h6.za (by omega) (by omega) (by omega) (by omega))
  have HQ := hide (HQ.out.step b6)
  have HR := hide (HR.out.step b6)
  have Y1 := hide (Y1.out.step b6)
  have Y2 := hide (Y2.out.step b6)
  have B6 := hide (B5.out.trans (b6.mono B5.out.size))
  clear h6 b6 H5 B5
  go_wp2_with fail
  refine D.out.mono ?_
  rintro e w7 ⟨q, r, rfl, hq, hr, b7⟩
  rw [zq_2] at hq
  rw [zr_2] at hr
  obtain ⟨A3, n3, c3, rfl, -⟩ := hq.lw (by omega)
  obtain ⟨A4, n4, c4, rfl, -⟩ := hr.lw (by omega)
  have HQ := hide (HQ.out.step b7)
  have HR := hide (HR.out.step b7)
  have Y1 := hide (Y1.out.step b7)
  have Y2 := hide (Y2.out.step b7)
  have B7 := hide (B6.out.trans (b7.mono B6.out.size))
  have HP := hide hq
  have HS := hide hr
  clear hq hr b7 D B6
  simp only [show decide ((-4 : Int) < 0) = true from rfl, show decide ((-1 : Int) < 0) = true from rfl] at HP HS ⊢
  go_wp2_with fail
  obtain ⟨x8, y3, y4⟩ := box2 w7 true true A3 A4 n3 c3 n4 c4
  generalize (w7.alloc (.cells #[.bool true, .slice A3 n3 c3] 24)).alloc (.cells #[.bool true, .slice A4 n4 c4] 24) = w8 at *
  have HQ := hide (HQ.out.step x8)
  have HR := hide (HR.out.step x8)
  have HP := hide (HP.out.step x8)
  have HS := hide (HS.out.step x8)
  have Y1 := hide (Y1.out.step x8)
  have Y2 := hide (Y2.out.step x8)
  have Y3 := hide y3
  have Y4 := hide y4
  have B8 := hide (B7.out.trans (x8.mono B7.out.size))
  generalize w7.heap.size = g2 at *
  clear x8 y3 y4 B7
  refine (zparse_any ⟨#[45, 48]⟩ w8 (by decide)).mono ?_
  rintro e w9 ⟨-, hz0, b9⟩
  obtain ⟨v9, rfl, hz1⟩ := hz0 zp_0.1
  have hz : Zi w9 v9 0 200 := by have h := hz1; rw [show (⟨#[45, 48]⟩ : ByteArray).data.toList = [45, 48] from rfl, zp_0.2] at h; exact h
  obtain ⟨A5, n5, c5, rfl, -⟩ := hz.lw (by omega)
  have HQ := hide (HQ.out.step b9)
  have HR := hide (HR.out.step b9)
  have HP := hide (HP.out.step b9)
  have HS := hide (HS.out.step b9)
  have Y1 := hide (Y1.out.step b9)
  have Y2 := hide (Y2.out.step b9)
  have Y3 := hide (Y3.out.step b9)
  have Y4 := hide (Y4.out.step b9)
  have B9 := hide (B8.out.trans (b9.mono B8.out.size))
  have HZ := hide hz
  clear hz hz0 hz1 b9 B8
  simp only [show decide ((0 : Int) < 0) = false from rfl] at HZ ⊢
  go_wp2_with fail
  obtain ⟨x10, y5⟩ := box1 w9 false A5 n5 c5
  generalize w9.alloc (.cells #[.bool false, .slice A5 n5 c5] 24) = w10 at *
  have Y1 := hide (Y1.out.step x10)
  have Y2 := hide (Y2.out.step x10)
  have Y3 := hide (Y3.out.step x10)
  have Y4 := hide (Y4.out.step x10)
  have Y5 := hide y5
  have x10d : Below w9.heap.size w9 w10.drew := below_drewN x10 1
  have hq : Zi w10.drew (zv true (.slice A1 n1 c1)) (-4) (1 + 1) := HQ.out.step x10d
  have hr : Zi w10.drew (zv false (.slice A2 n2 c2)) 1 (1 + 1) := HR.out.step x10d
  have hp : Zi w10.drew (zv true (.slice A3 n3 c3)) (-4) (1 + 1) := HP.out.step x10d
  have hs : Zi w10.drew (zv true (.slice A4 n4 c4)) (-1) (1 + 1) := HS.out.step x10d
  have hz : Zi w10.drew (zv false (.slice A5 n5 c5)) 0 200 := HZ.out.step x10d
  have B10 := hide (B9.out.trans (x10.mono B9.out.size))
  generalize w9.heap.size = g3 at *
  have p0 : w10.drew.cell? ⟨g1, 0, none⟩ = some (.bool true) := Y1.out.1
  have p1 : w10.drew.cell? ⟨g1, 1, none⟩ = some (.slice A1 n1 c1) := Y1.out.2
  have p2 : w10.drew.cell? ⟨g1 + 1, 0, none⟩ = some (.bool false) := Y2.out.1
  have p3 : w10.drew.cell? ⟨g1 + 1, 1, none⟩ = some (.slice A2 n2 c2) := Y2.out.2
  have p4 : w10.drew.cell? ⟨g2, 0, none⟩ = some (.bool true) := Y3.out.1
  have p5 : w10.drew.cell? ⟨g2, 1, none⟩ = some (.slice A3 n3 c3) := Y3.out.2
  have p6 : w10.drew.cell? ⟨g2 + 1, 0, none⟩ = some (.bool true) := Y4.out.1
  have p7 : w10.drew.cell? ⟨g2 + 1, 1, none⟩ = some (.slice A4 n4 c4) := Y4.out.2
  have p8 : w10.drew.cell? ⟨g3, 0, none⟩ = some (.bool false) := Y5.out.1
  have p9 : w10.drew.cell? ⟨g3, 1, none⟩ = some (.slice A5 n5 c5) := Y5.out.2
  clear x10 x10d y5 Y1 Y2 Y3 Y4 Y5 B9 HQ HR HP HS HZ
  go_region_held3 (fun W => W.cell? ⟨g1, 0, none⟩ = some (.bool true) ∧ W.cell? ⟨g1, 1, none⟩ = some (.slice A1 n1 c1) ∧ W.cell? ⟨g1 + 1, 0, none⟩ = some (.bool false) ∧ W.cell? ⟨g1 + 1, 1, none⟩ = some (.slice A2 n2 c2) ∧ W.cell? ⟨g2, 0, none⟩ = some (.bool true) ∧ W.cell? ⟨g2, 1, none⟩ = some (.slice A3 n3 c3) ∧ W.cell? ⟨g2 + 1, 0, none⟩ = some (.bool true) ∧ W.cell? ⟨g2 + 1, 1, none⟩ = some (.slice A4 n4 c4) ∧ W.cell? ⟨g3, 0, none⟩ = some (.bool false) ∧ W.cell? ⟨g3, 1, none⟩ = some (.slice A5 n5 c5))
    (first | with_reducible exact ⟨p0, p1, p2, p3, p4, p5, p6, p7, p8, p9⟩ | (refine ⟨?_, ?_, ?_, ?_, ?_, ?_, ?_, ?_, ?_, ?_⟩ <;> (repeat (first | (with_reducible assumption) | (with_reducible refine cell_keep ?_ (by with_reducible assumption))))))
    (first
      | (go_at_call 38; refine (qsmall_any _ _ (by omega) (by omega)).mono ?_; rintro e wx ⟨vx, rfl, qx, bx⟩)
      | (go_at_call 13; refine (qto_any (L := 6) (by assumption) (by omega)).mono ?_; rintro e wx ⟨vx, rfl, tx, bx⟩)
      | (go_at_call 11; refine Calls.mono (zsame_i (z := -4) (L := 1 + 1) (M := 6) ?_ ?_) ?_; (focus ((first | with_reducible exact zi_nil _ | (repeat (first | (with_reducible assumption) | (with_reducible refine Zi.step ?_ (by with_reducible assumption))))); done)); (focus ((first | with_reducible exact zi_nil _ | (repeat (first | (with_reducible assumption) | (with_reducible refine Zi.step ?_ (by with_reducible assumption))))); done)); rintro e wx ⟨rfl, bx⟩)
      | (go_at_call 11; refine Calls.mono (zsame_i (z := 1) (L := 1 + 1) (M := 6) ?_ ?_) ?_; (focus ((first | with_reducible exact zi_nil _ | (repeat (first | (with_reducible assumption) | (with_reducible refine Zi.step ?_ (by with_reducible assumption))))); done)); (focus ((first | with_reducible exact zi_nil _ | (repeat (first | (with_reducible assumption) | (with_reducible refine Zi.step ?_ (by with_reducible assumption))))); done)); rintro e wx ⟨rfl, bx⟩)
      | (go_at_call 11; refine Calls.mono (zsame_i (z := -1) (L := 1 + 1) (M := 6) ?_ ?_) ?_; (focus ((first | with_reducible exact zi_nil _ | (repeat (first | (with_reducible assumption) | (with_reducible refine Zi.step ?_ (by with_reducible assumption))))); done)); (focus ((first | with_reducible exact zi_nil _ | (repeat (first | (with_reducible assumption) | (with_reducible refine Zi.step ?_ (by with_reducible assumption))))); done)); rintro e wx ⟨rfl, bx⟩)
      | (go_at_call 11; refine Calls.mono (zsame_i (z := 0) (L := 200) (M := 0) ?_ ?_) ?_; (focus ((first | with_reducible exact zi_nil _ | (repeat (first | (with_reducible assumption) | (with_reducible refine Zi.step ?_ (by with_reducible assumption))))); done)); (focus ((first | with_reducible exact zi_nil _ | (repeat (first | (with_reducible assumption) | (with_reducible refine Zi.step ?_ (by with_reducible assumption))))); done)); rintro e wx ⟨rfl, bx⟩)
      | (go_at_call 36; refine (zof_any _ _ (by omega) (by omega)).mono ?_; rintro e wx ⟨vx, rfl, tx, bx⟩)
      | (go_at_call 39; refine (ztext_any (L := 1) (Zi.za (by assumption)) (by omega)).mono ?_; rw [zt_0]; rintro e wx ⟨rfl, bx⟩))
  all_goals
    have b10d : Below w.heap.size w w10.drew := below_drewN B10.out 1
    have fin : Below w.heap.size w wx := by
      repeat (first | (with_reducible assumption) | (with_reducible refine bel_step ?_ (by with_reducible assumption)))
    have Fin := hide fin
    clear fin
    go_wp2_with fail
    go_ret
    exact ⟨rfl, Fin.out⟩
end Go.Proofs.YtpcchagnbkohnaaGreatDoor
