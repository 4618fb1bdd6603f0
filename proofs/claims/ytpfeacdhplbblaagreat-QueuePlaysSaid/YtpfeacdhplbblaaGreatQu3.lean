
/-
  Queues: which of two nodes comes first.
-/
import Derived.Test.YtpfeacdhplbblaaGreatBundleV
import Derived.Test.YtpfeacdhplbblaaGreatBundleO
import Derived.Test.YtpfeacdhplbblaaGreatBundleF
import Derived.Test.YtpfeacdhplbblaaGreatBundleM
import Derived.Deep.DeepCutAuto
import Derived.BigRegion
import Derived.Deep.RegionHeld3


namespace Go.Proofs.YtpfeacdhplbblaaGreat
open Go.RowKit Go.Proofs.YtpfeacdhplbblaaGreat.Num
set_option linter.unusedVariables false
set_option linter.unusedSimpArgs false
set_option maxRecDepth 100000
def or3 (a b c : Int) : Int := if a ≠ 0 then a else if b ≠ 0 then b else c
set_option maxHeartbeats 4000000 in
theorem or3_c {w : World} {g : Nat} (a b c : Int) (h : w.heap[g]? = some (.cells #[.int .i64 a, .int .i64 b, .int .i64 c] 3 (0, 0))) :
    Calls Tryz.prog 60 #[.slice (some ⟨g, 0, none⟩) 3 3] w fun e w' => e = .returned (.int .i64 (or3 a b c)) ∧ w' = w := by
  have c0 := cell_of_row w g 0 _ _ _ h
  have c1 := cell_of_row w g 1 _ _ _ h
  have c2 := cell_of_row w g 2 _ _ _ h
  simp at c0 c1 c2
  clear h
  go_enter Tryz.func60, Tryz.ntmps60
  go_wp2_with fail
  go_loopw [8] (fun iv wr => ∃ k : Nat, k ≤ 3 ∧ iv = .int .i64 (k : Int) ∧ wr = w ∧ (0 < k → a = 0) ∧ (1 < k → b = 0) ∧ (2 < k → c = 0)) (fun iv _ => 3 - (intOf iv).toNat)
  case atStart => exact ⟨0, by omega, rfl, rfl, by omega, by omega, by omega⟩
  case round =>
    obtain ⟨k, hk, rfl, rfl, ha, hb, hc⟩ := hrel
    rcases (by omega : k = 0 ∨ k = 1 ∨ k = 2 ∨ k = 3) with rfl | rfl | rfl | rfl
    · by_cases h : a = 0
      · have t : (a != 0) = false := by simp [h]
        have H := hide h
        clear h ha hb hc
        go_wp2_with fail
        exact ⟨⟨1, by omega, (by first | trivial | rfl | go_num), (by first | trivial | rfl), fun _ => H.out, by omega, by omega⟩, by simp [intOf]⟩
      · have t : (a != 0) = true := by simp [h]
        have H := hide (show or3 a b c = a by unfold or3; rw [if_pos h])
        clear h ha hb hc
        go_wp2_with fail
        go_ret
        exact ⟨by rw [H.out]; rfl, rfl⟩
    · have HA := hide (ha (by omega))
      by_cases h : b = 0
      · have t : (b != 0) = false := by simp [h]
        have H := hide h
        clear h ha hb hc
        go_wp2_with fail
        exact ⟨⟨2, by omega, (by first | trivial | rfl | go_num), (by first | trivial | rfl), fun _ => HA.out, fun _ => H.out, by omega⟩, by simp [intOf]⟩
      · have t : (b != 0) = true := by simp [h]
        have H := hide (show or3 a b c = b by unfold or3; rw [HA.out]; simp [h])
        clear h ha hb hc
        go_wp2_with fail
        go_ret
        exact ⟨by rw [H.out]; rfl, rfl⟩
    · have HA := hide (ha (by omega))
      have HB := hide (hb (by omega))
      by_cases h : c = 0
      · have t : (c != 0) = false := by simp [h]
        have H := hide h
        clear h ha hb hc
        go_wp2_with fail
        exact ⟨⟨3, by omega, (by first | trivial | rfl | go_num), (by first | trivial | rfl), fun _ => HA.out, fun _ => HB.out, fun _ => H.out⟩, by simp [intOf]⟩
      · have t : (c != 0) = true := by simp [h]
        have H := hide (show or3 a b c = c by unfold or3; rw [HA.out, HB.out]; simp)
        clear h ha hb hc
        go_wp2_with fail
        go_ret
        exact ⟨by rw [H.out]; rfl, rfl⟩
    · have H := hide (show or3 a b c = 0 by unfold or3; rw [ha (by omega), hb (by omega), hc (by omega)]; simp)
      clear ha hb hc
      go_wp2_with fail
      go_ret
      exact ⟨by rw [H.out]; rfl, rfl⟩
theorem ah_deep {o : Int} {x y : Nx} (ho : o = 1) (hd : x.dp ≠ y.dp) : decide (Go.Lib.compareInt y.dp x.dp < 0) = true ↔ ah o x y := by
  unfold Go.Lib.compareInt ah ak ky
  subst ho
  by_cases h1 : y.dp < x.dp
  · rw [if_pos h1]
    simp [h1]
  · rw [if_neg h1]
    split
    · simp
      omega
    · omega
theorem ah_or {o : Int} {x y : Nx} (ho : o = 1 → x.dp = y.dp) : decide (or3 (cmpR x.x.r y.x.r) (Go.Lib.compareInt y.dp x.dp) (Go.Lib.compareInt x.id y.id) < 0) = true ↔ ah o x y := by
  rw [decide_eq_true_iff]
  unfold ah ak ky or3 cmpR Go.Lib.compareInt
  dsimp only
  by_cases h1 : x.x.r < y.x.r
  · have e1 : ¬ y.x.r < x.x.r := by grind
    have e2 : ¬ x.x.r = y.x.r := by grind
    simp only [h1, if_true]
    constructor
    · intro _
      by_cases h : o = 1
      · exact .inl ⟨h, .inr ⟨ho h, .inl trivial⟩⟩
      · exact .inr ⟨h, .inl trivial⟩
    · intro _
      rw [if_pos (by decide)]
      decide
  · by_cases h2 : y.x.r < x.x.r
    · have e2 : ¬ x.x.r = y.x.r := by grind
      simp only [h1, h2, e2, if_true, if_false]
      constructor
      · intro h
        rw [if_pos (by decide)] at h
        exact absurd h (by decide)
      · rintro (⟨h, h3 | ⟨h3, h4 | ⟨h4, _⟩⟩⟩ | ⟨h, h3 | ⟨h3, _⟩⟩)
        · have := ho h; omega
        · exact absurd h4 (by simp)
        · exact absurd h4 (by simp)
        · exact absurd h3 (by simp)
        · exact absurd h3 (by simp)
    · have e2 : x.x.r = y.x.r := by grind
      simp only [h1, h2, e2, if_false]
      by_cases h : o = 1
      · have hd := ho h
        simp [h, hd]
        split <;> (try split) <;> simp <;> omega
      · simp [h]
        by_cases h3 : y.dp < x.dp
        · simp [h3]
        · by_cases h4 : x.dp < y.dp
          · simp [h3, h4]
            omega
          · have h5 : x.dp = y.dp := by omega
            simp [h5]
            split <;> (try split) <;> simp <;> omega
theorem bal1 (W : World) (o : Obj) : Below W.heap.size W (W.alloc o) := (Below.refl _ _).alloc (Nat.le_refl _) _
theorem compare_b (w : World) (x y : Int) : Calls Tryz.prog 59 #[.int .i64 x, .int .i64 y] w fun e w' => e = .returned (.int .i64 (Go.Lib.compareInt x y)) ∧ Below w.heap.size w w' :=
  (compare_i x y w).mono fun e w' h => ⟨h.1, by rw [h.2]; exact Below.refl _ _⟩
theorem or3_b (w : World) (a b c : Int) : Calls Tryz.prog 60 #[.slice (some ⟨w.heap.size, 0, none⟩) 3 3] (w.alloc (.cells #[.int .i64 a, .int .i64 b, .int .i64 c] 3)) fun e w' => e = .returned (.int .i64 (or3 a b c)) ∧ Below w.heap.size w w' :=
  (or3_c a b c (heap_alloc_new w _)).mono fun e w' h => ⟨h.1, by rw [h.2]; exact bal1 _ _⟩
set_option maxHeartbeats 16000000 in
theorem qahead_c {w : World} {B g i j M : Nat} {o : Int} {v : Sl} {l : List Nx} {x y : Nx} (hq : Qo w B g o v l M) (hi : l[i]? = some x) (hj : l[j]? = some y) (h1 : 1 ≤ M) (hM : M ≤ 1000000) :
    Calls Tryz.prog 41 #[.pointer (some ⟨g, 0, none⟩), .int .i64 (i : Int), .int .i64 (j : Int)] w fun e w' => BRet (ah o x y) e ∧ Below w.heap.size w w' := by
  obtain ⟨a, c, rfl, hB, hlt, hl1, hl2, hag⟩ := hq.form hi
  have hil := (List.getElem?_eq_some_iff.1 hi).1
  have hjl := (List.getElem?_eq_some_iff.1 hj).1
  have HX := hide (hq.2.2.2 x (List.mem_of_getElem? hi)).ra
  have HY := hide (hq.2.2.2 y (List.mem_of_getElem? hj)).ra
  have HQ := hide hq.1
  have hgl := hq.1.lt
  obtain ⟨x0, x1, x2, x3, x4⟩ := Ow.cellsN hq.2.2.1 hi
  obtain ⟨y0, y1, y2, y3, y4⟩ := Ow.cellsN hq.2.2.1 hj
  have q1 : w.cell? ⟨g, 1, none⟩ = some (.slice (some ⟨a, 0, none⟩) l.length c) := hq.1.c
  have i1 : (0 : Int) ≤ (i : Int) := by omega
  have i2 : (i : Int) < (l.length : Int) := by omega
  have j1 : (0 : Int) ≤ (j : Int) := by omega
  have j2 : (j : Int) < (l.length : Int) := by omega
  have n1 : a ≠ w.heap.size := by omega
  have n2 : a ≠ w.heap.size + 1 := by omega
  have n3 : g ≠ w.heap.size := by omega
  have n4 : g ≠ w.heap.size + 1 := by omega
  clear hq hi hj hl1 hl2
  generalize l.length = n at *
  go_enter Tryz.func41, Tryz.ntmps41
  go_wp2_with fail
  go_cut [7, 8] from 10 to 23 (fun s t wx => ∃ gx gy, s = .pointer (some ⟨gx, 0, none⟩) ∧ t = .pointer (some ⟨gy, 0, none⟩) ∧ Hid (Nq wx gx x) ∧ Hid (Nq wx gy y) ∧ Hid (Below w.heap.size w wx))
  case first =>
    have e1 := hide (show Nq ((w.alloc (nbox x)).alloc (nbox y)).drew w.heap.size x ∧ Nq ((w.alloc (nbox x)).alloc (nbox y)).drew (w.heap.size + 1) y from ⟨heap_alloc2_old w _ _, heap_alloc2_new w _ _⟩)
    have e2 := hide (show Nq ((w.alloc (nbox y)).alloc (nbox x)).drew (w.heap.size + 1) x ∧ Nq ((w.alloc (nbox y)).alloc (nbox x)).drew w.heap.size y from ⟨heap_alloc2_new w _ _, heap_alloc2_old w _ _⟩)
    have b1 : Hid (Below w.heap.size w ((w.alloc (nbox x)).alloc (nbox y)).drew) := hide ((((Below.refl _ _).alloc (Nat.le_refl _) _).alloc (by simp) _).drew)
    have b2 : Hid (Below w.heap.size w ((w.alloc (nbox y)).alloc (nbox x)).drew) := hide ((((Below.refl _ _).alloc (Nat.le_refl _) _).alloc (by simp) _).drew)
    go_region
    all_goals
      go_wp2_with fail
      go_meet
      first
        | exact ⟨w.heap.size, w.heap.size + 1, rfl, rfl, hide e1.out.1, hide e1.out.2, b1⟩
        | exact ⟨w.heap.size + 1, w.heap.size, rfl, rfl, hide e2.out.1, hide e2.out.2, b2⟩
  case rest =>
    obtain ⟨gx, gy, rfl, rfl, GX, GY, BL⟩ := hcut
    replace HX := hide (HX.out.step BL.out)
    replace HY := hide (HY.out.step BL.out)
    replace HQ := hide (HQ.out.step BL.out)
    clear x0 x1 x2 x3 x4 y0 y1 y2 y3 y4 q1 n1 n2 n3 n4
    obtain ⟨x0, x1, x2, x3, x4⟩ := GX.out.all
    obtain ⟨y0, y1, y2, y3, y4⟩ := GY.out.all
    have q0 := HQ.out.c0
    go_wp2_with fail
    refine (compare_i y.dp x.dp wc).mono ?_
    rintro e w2 ⟨rfl, rfl⟩
    by_cases ho : o = 1 ∧ x.dp ≠ y.dp
    · obtain ⟨ho, hd⟩ := ho
      have t1 : (o == 1) = true := by simp [ho]
      have t2 : (Go.Lib.compareInt y.dp x.dp != 0) = true := by
        unfold Go.Lib.compareInt
        split
        · rfl
        · split
          · rfl
          · omega
      have FN := hide (ah_deep (o := o) ho hd)
      clear ho hd
      go_wp2_with fail
      go_ret
      exact ⟨⟨_, rfl, FN.out⟩, BL.out⟩
    · have FN := hide (ah_or (o := o) (x := x) (y := y) (fun h => Classical.byContradiction fun h2 => ho ⟨h, h2⟩))
      have bd := (Below.refl w2.heap.size w2).drew
      have T0 := hide True.intro
      have fin : ∀ (W : World), True := fun _ => trivial
      have key : (o == 1) = false ∨ ((o == 1) = true ∧ (Go.Lib.compareInt y.dp x.dp != 0) = false) := by
        by_cases h1 : o = 1
        · refine .inr ⟨by simp [h1], ?_⟩
          have h2 : x.dp = y.dp := Classical.byContradiction fun h2 => ho ⟨h1, h2⟩
          unfold Go.Lib.compareInt
          rw [if_neg (by omega), if_neg (by omega)]
          rfl
        · exact .inl (by simp [h1])
      clear ho fin
      have D := hide (Below.refl w2.heap.size w2).drew
      rcases key with t1 | ⟨t1, t2⟩
      · go_wp2_with fail
        replace GX := hide (GX.out.step D.out)
        replace GY := hide (GY.out.step D.out)
        replace HX := hide (HX.out.step D.out)
        replace HY := hide (HY.out.step D.out)
        replace BL := hide (Below.step1 BL.out D.out)
        clear x0 x1 x2 x3 x4 y0 y1 y2 y3 y4 q0 D bd
        go_region_held3 (fun W => (W.cell? ⟨gx, 0, none⟩ = some (.int .i64 x.id) ∧ W.cell? ⟨gx, 1, none⟩ = some (.int .i64 x.dp) ∧ W.cell? ⟨gx, 2, none⟩ = some (.bool x.x.s) ∧ W.cell? ⟨gx, 3, none⟩ = some (sv x.x.u) ∧ W.cell? ⟨gx, 4, none⟩ = some (sv x.x.t)) ∧ (W.cell? ⟨gy, 0, none⟩ = some (.int .i64 y.id) ∧ W.cell? ⟨gy, 1, none⟩ = some (.int .i64 y.dp) ∧ W.cell? ⟨gy, 2, none⟩ = some (.bool y.x.s) ∧ W.cell? ⟨gy, 3, none⟩ = some (sv y.x.u) ∧ W.cell? ⟨gy, 4, none⟩ = some (sv y.x.t)))
          (first | with_reducible exact And.intro GX.out.all GY.out.all | with_reducible exact And.intro (GX.out.step (bal1 _ _)).all (GY.out.step (bal1 _ _)).all)
          (first
            | (go_at_call 31; refine Calls.mono (cmp_r (r1 := x.x.r) (r2 := y.x.r) (L := M) HX.out HY.out h1 (by omega)) ?_; rintro e wx ⟨rfl, bx⟩; replace GX := hide (GX.out.step bx); replace GY := hide (GY.out.step bx); replace BL := hide (Below.step1 BL.out bx); clear bx HX HY)
            | (go_at_call 59; refine Calls.mono (compare_b _ x.id y.id) ?_; rintro e wx ⟨rfl, bx⟩; replace GX := hide (GX.out.step bx); replace GY := hide (GY.out.step bx); replace BL := hide (Below.step1 BL.out bx); clear bx)
            | (go_at_call 60; refine Calls.mono (or3_b _ _ _ _) ?_; rintro e wx ⟨rfl, bx⟩; replace GX := hide (GX.out.step bx); replace GY := hide (GY.out.step bx); replace BL := hide (Below.step1 BL.out bx); clear bx))
        all_goals
          go_wp2_with fail
          go_ret
          exact ⟨⟨_, rfl, FN.out⟩, BL.out⟩
      · go_wp2_with fail
        replace GX := hide (GX.out.step D.out)
        replace GY := hide (GY.out.step D.out)
        replace HX := hide (HX.out.step D.out)
        replace HY := hide (HY.out.step D.out)
        replace BL := hide (Below.step1 BL.out D.out)
        clear x0 x1 x2 x3 x4 y0 y1 y2 y3 y4 q0 D bd
        go_region_held3 (fun W => (W.cell? ⟨gx, 0, none⟩ = some (.int .i64 x.id) ∧ W.cell? ⟨gx, 1, none⟩ = some (.int .i64 x.dp) ∧ W.cell? ⟨gx, 2, none⟩ = some (.bool x.x.s) ∧ W.cell? ⟨gx, 3, none⟩ = some (sv x.x.u) ∧ W.cell? ⟨gx, 4, none⟩ = some (sv x.x.t)) ∧ (W.cell? ⟨gy, 0, none⟩ = some (.int .i64 y.id) ∧ W.cell? ⟨gy, 1, none⟩ = some (.int .i64 y.dp) ∧ W.cell? ⟨gy, 2, none⟩ = some (.bool y.x.s) ∧ W.cell? ⟨gy, 3, none⟩ = some (sv y.x.u) ∧ W.cell? ⟨gy, 4, none⟩ = some (sv y.x.t)))
          (first | with_reducible exact And.intro GX.out.all GY.out.all | with_reducible exact And.intro (GX.out.step (bal1 _ _)).all (GY.out.step (bal1 _ _)).all)
          (first
            | (go_at_call 31; refine Calls.mono (cmp_r (r1 := x.x.r) (r2 := y.x.r) (L := M) HX.out HY.out h1 (by omega)) ?_; rintro e wx ⟨rfl, bx⟩; replace GX := hide (GX.out.step bx); replace GY := hide (GY.out.step bx); replace BL := hide (Below.step1 BL.out bx); clear bx HX HY)
            | (go_at_call 59; refine Calls.mono (compare_b _ x.id y.id) ?_; rintro e wx ⟨rfl, bx⟩; replace GX := hide (GX.out.step bx); replace GY := hide (GY.out.step bx); replace BL := hide (Below.step1 BL.out bx); clear bx)
            | (go_at_call 60; refine Calls.mono (or3_b _ _ _ _) ?_; rintro e wx ⟨rfl, bx⟩; replace GX := hide (GX.out.step bx); replace GY := hide (GY.out.step bx); replace BL := hide (Below.step1 BL.out bx); clear bx))
        all_goals
          go_wp2_with fail
          go_ret
          exact ⟨⟨_, rfl, FN.out⟩, BL.out⟩
end Go.Proofs.YtpfeacdhplbblaaGreat
