/-
  The walk of RatSums: true.
-/
import Derived.Test.YtajjpepjbflojaaGreatRsum1
import Derived.Test.YtajjpepjbflojaaGreatBundleH
import Derived.Test.YtajjpepjbflojaaGreatVgat
import Derived.Test.YtajjpepjbflojaaGreatBundleG


namespace Go.Proofs.YtajjpepjbflojaaGreat
open Go.RowKit Go.Proofs.YtajjpepjbflojaaGreat.Num
set_option linter.unusedVariables false
set_option linter.unusedSimpArgs false
set_option maxRecDepth 100000

set_option maxHeartbeats 16000000 in
theorem ratsums_true (w : World) (a0 b0 : Rx) (ha : Ra w (rx a0) a0.r 17592186043904) (hb : Ra w (rx b0) b0.r 17592186043904) :
    Calls Tryz.prog 3 #[rx a0, rx b0] w fun e w' => e = .returned (.bool true) ∧ Below w.heap.size w w' := by
  have b1 := alloc_below w (rbox a0.s (sv a0.u) (sv a0.t))
  have b2 : Below w.heap.size w ((w.alloc (rbox a0.s (sv a0.u) (sv a0.t))).alloc (rbox b0.s (sv b0.u) (sv b0.t))) := b1.alloc b1.size _
  have QA := hide ((Bq.new w a0.s (sv a0.u) (sv a0.t)).step (alloc_below _ (rbox b0.s (sv b0.u) (sv b0.t))))
  have QB := hide (show Bq ((w.alloc (rbox a0.s (sv a0.u) (sv a0.t))).alloc (rbox b0.s (sv b0.u) (sv b0.t))) (w.heap.size + 1) b0.s (sv b0.u) (sv b0.t) from by
    have h9 := Bq.new (w.alloc (rbox a0.s (sv a0.u) (sv a0.t))) b0.s (sv b0.u) (sv b0.t)
    rwa [show (w.alloc (rbox a0.s (sv a0.u) (sv a0.t))).heap.size = w.heap.size + 1 by simp] at h9)
  have RA := hide (ha.step b2)
  have RB := hide (hb.step b2)
  have B := hide b2
  clear ha hb b1 b2
  go_enter Tryz.func3, Tryz.ntmps3
  go_wp2_with fail
  generalize ((w.alloc (rbox a0.s (sv a0.u) (sv a0.t))).alloc (rbox b0.s (sv b0.u) (sv b0.t))) = w0 at *
  refine (rspeaks_true _).mono ?_
  rintro e w1 ⟨rfl, bx⟩
  replace QA := hide (QA.out.step bx)
  replace QB := hide (QB.out.step bx)
  replace RA := hide (RA.out.step bx)
  replace RB := hide (RB.out.step bx)
  replace B := hide (Below.step B.out B.out.size bx)

  clear bx
  obtain ⟨p0, p1, p2⟩ := bq3 QA.out
  obtain ⟨q0, q1, q2⟩ := bq3 QB.out
  have GC := hide (rgreat_x RA.out RB.out (by omega) (by omega))
  by_cases hg : 12 < a0.u.2.1 + a0.t.2.1 ∨ 12 < b0.u.2.1 + b0.t.2.1
  · rw [decide_eq_true hg] at GC
    clear hg
    go_wp2_with fail
    refine GC.out.mono ?_
    rintro e w2 ⟨rfl, bx⟩
    replace B := hide (Below.step B.out B.out.size bx)
    clear bx p0 p1 p2 q0 q1 q2 GC
    go_wp2_with fail
    go_ret
    exact ⟨rfl, B.out⟩
  · rw [decide_eq_false hg] at GC
    obtain ⟨za, -, hza⟩ := zf_of (RA.out.tight (M := 12) (by omega) (by omega)) 0
    obtain ⟨zb, -, hzb⟩ := zf_of (RB.out.tight (M := 12) (by omega) (by omega)) 0
    have ZA := hide hza
    have ZB := hide hzb
    clear hg hza hzb RA RB
    go_wp2_with fail
    refine GC.out.mono ?_
    rintro e w2 ⟨rfl, bx0⟩
    have bx := Below.step1 bx0 (Below.drew (Below.refl w2.heap.size w2))
    replace QA := hide (QA.out.step bx)
    replace QB := hide (QB.out.step bx)
    replace ZA := hide (ZA.out.step bx)
    replace ZB := hide (ZB.out.step bx)
    replace B := hide (Below.step B.out B.out.size bx)

    clear bx bx0 p0 p1 p2 q0 q1 q2 GC
    obtain ⟨p0, p1, p2⟩ := bq3 QA.out
    obtain ⟨q0, q1, q2⟩ := bq3 QB.out
    go_wp2_with fail
    refine wp_region_held_drew (S := fun W => Below w2.drew.heap.size w2.drew W) (by kernel_rfl) (Below.refl _ _) (fun hHeld => ?_)
    refine wpAnyH_with 2 #[true, true, true, true, true, true, false, false] (fun a W => ∃ (x0 : Rx) (y0 : Rx) (g0 : Nat) (g1 : Nat), a = ⟨#[rx a0, rx b0, .pointer (some ⟨w.heap.size, 0, none⟩), .pointer (some ⟨w.heap.size + 1, 0, none⟩), .bool false, .pointer (some ⟨g0, 0, none⟩), .pointer (some ⟨g1, 0, none⟩), undef, undef, undef, undef, undef, undef, undef, .bool true, .bool false, .agg #[.bool a0.s, sv a0.u, sv a0.t], .agg #[.bool b0.s, sv b0.u, sv b0.t], .bool false, .agg #[.bool a0.s, sv a0.u, sv a0.t], rx x0, .agg #[.bool b0.s, sv b0.u, sv b0.t], rx y0, undef, undef, undef, undef, undef, undef, undef, undef, undef, undef, undef, undef, undef, undef, undef, undef, undef, undef, undef, undef, undef, undef, undef, undef, undef, undef, undef, undef, undef, undef, undef, undef, undef, undef, undef, undef, undef, undef, undef, undef, undef, undef, undef, undef, undef, undef, undef, undef, undef, undef, undef, undef, undef, undef, undef, undef, undef, undef, undef, undef, undef, undef, undef, undef, undef, undef, undef, undef, undef, undef, undef, undef, undef, undef, undef], []⟩ ∧ Sg w2.drew.heap.size w2.drew W [rblk, rblk] [some g0, some g1] (fun W => ((True ∧ Zf W x0 za 12) ∧ Zf W y0 zb 12))) ?_ (fun Hs211 => ?_)
    · rintro a W ⟨x0, y0, g0, g1, rfl, st0⟩
      have hHeld := st0.1
      have st := hide st0
      clear st0
      obtain ⟨k0, f0⟩ := Sg.cells st.out 0 g0 #[.bool false, .slice none 0 0, .slice none 0 0] 26 rfl rfl 0
      obtain ⟨k1, f1⟩ := Sg.cells st.out 0 g0 #[.bool false, .slice none 0 0, .slice none 0 0] 26 rfl rfl 1
      obtain ⟨k2, f2⟩ := Sg.cells st.out 0 g0 #[.bool false, .slice none 0 0, .slice none 0 0] 26 rfl rfl 2
      simp only [List.getElem?_toArray, List.getElem?_cons_zero, List.getElem?_cons_succ] at k0
      simp only [List.getElem?_toArray, List.getElem?_cons_zero, List.getElem?_cons_succ] at k1
      simp only [List.getElem?_toArray, List.getElem?_cons_zero, List.getElem?_cons_succ] at k2
      have st9 := st.out
      have st9 := Sg.put st9 (Firm2.and (Firm2.and Firm2.yes (Firm2.zf _ _ _)) (Firm2.zf _ _ _)) 0 g0 0 _ 26 (.bool x0.s) rfl rfl rfl
      have st9 := Sg.put st9 (Firm2.and (Firm2.and Firm2.yes (Firm2.zf _ _ _)) (Firm2.zf _ _ _)) 0 g0 1 _ 26 (sv x0.u) rfl rfl rfl
      have st9 := Sg.put st9 (Firm2.and (Firm2.and Firm2.yes (Firm2.zf _ _ _)) (Firm2.zf _ _ _)) 0 g0 2 _ 26 (sv x0.t) rfl rfl rfl
      have st8 := hide st9
      clear st9
      refine wpAnyH_ready (rs := [6]) (by kernel_rfl) (by simp) ?_
      refine AllReadyH.cons rfl (fun K hK => ?_) ?_
      rotate_left
      · exact AllReadyH.nil
      go_simp
      refine hK.out _ _ st8.out.1 (fun hHeld => ?_)
      clear hK K k0 f0 k1 f1 k2 f2 st
      (try simp only [Act.put, List.setIfInBounds_toArray, List.set_cons_zero, List.set_cons_succ])
      generalize (((W.setCell ⟨g0, 0, none⟩ _).setCell ⟨g0, 1, none⟩ _).setCell ⟨g0, 2, none⟩ _) = W5 at *
      have st := st8
      clear st8
      obtain ⟨k0, f0⟩ := Sg.cells st.out 1 g1 #[.bool false, .slice none 0 0, .slice none 0 0] 26 rfl rfl 0
      obtain ⟨k1, f1⟩ := Sg.cells st.out 1 g1 #[.bool false, .slice none 0 0, .slice none 0 0] 26 rfl rfl 1
      obtain ⟨k2, f2⟩ := Sg.cells st.out 1 g1 #[.bool false, .slice none 0 0, .slice none 0 0] 26 rfl rfl 2
      simp only [List.getElem?_toArray, List.getElem?_cons_zero, List.getElem?_cons_succ] at k0
      simp only [List.getElem?_toArray, List.getElem?_cons_zero, List.getElem?_cons_succ] at k1
      simp only [List.getElem?_toArray, List.getElem?_cons_zero, List.getElem?_cons_succ] at k2
      have st9 := st.out
      have st9 := Sg.put st9 (Firm2.and (Firm2.and Firm2.yes (Firm2.zf _ _ _)) (Firm2.zf _ _ _)) 1 g1 0 _ 26 (.bool y0.s) rfl rfl rfl
      have st9 := Sg.put st9 (Firm2.and (Firm2.and Firm2.yes (Firm2.zf _ _ _)) (Firm2.zf _ _ _)) 1 g1 1 _ 26 (sv y0.u) rfl rfl rfl
      have st9 := Sg.put st9 (Firm2.and (Firm2.and Firm2.yes (Firm2.zf _ _ _)) (Firm2.zf _ _ _)) 1 g1 2 _ 26 (sv y0.t) rfl rfl rfl
      have st8 := hide st9
      clear st9
      refine wpAnyH_ready (rs := [7]) (by kernel_rfl) (by simp) ?_
      refine AllReadyH.cons rfl (fun K hK => ?_) ?_
      rotate_left
      · exact AllReadyH.nil
      go_simp
      refine hK.out _ _ st8.out.1 (fun hHeld => ?_)
      clear hK K k0 f0 k1 f1 k2 f2 st
      (try simp only [Act.put, List.setIfInBounds_toArray, List.set_cons_zero, List.set_cons_succ])
      generalize (((W5.setCell ⟨g1, 0, none⟩ _).setCell ⟨g1, 1, none⟩ _).setCell ⟨g1, 2, none⟩ _) = W6 at *
      have st := st8
      clear st8
      refine wpAnyH_done (by kernel_rfl) ?_ _
      clear hHeld
      have s9 := st.out
      have QX := hide (show Bq W6 g0 x0.s (sv x0.u) (sv x0.t) from (s9.2.2.2.1 0 g0 _ rfl rfl).1)
      have QY := hide (show Bq W6 g1 y0.s (sv y0.u) (sv y0.t) from (s9.2.2.2.1 1 g1 _ rfl rfl).1)
      have ZX := hide s9.2.2.1.1.2
      have ZY := hide s9.2.2.1.2
      replace QA := hide (QA.out.step s9.1)
      replace QB := hide (QB.out.step s9.1)
      replace ZA := hide (ZA.out.step s9.1)
      replace ZB := hide (ZB.out.step s9.1)
      replace B := hide (Below.step B.out B.out.size s9.1)
      clear s9 st
      generalize W6 = w3 at *
      have bx := Below.drew (Below.refl w3.heap.size w3)
      replace QA := hide (QA.out.step bx)
      replace QB := hide (QB.out.step bx)
      replace QX := hide (QX.out.step bx)
      replace QY := hide (QY.out.step bx)
      replace ZA := hide (ZA.out.step bx)
      replace ZB := hide (ZB.out.step bx)
      replace ZX := hide (ZX.out.step bx)
      replace ZY := hide (ZY.out.step bx)
      replace B := hide (Below.step B.out B.out.size bx)
      clear bx
      obtain ⟨p0, p1, p2⟩ := bq3 QA.out
      obtain ⟨q0, q1, q2⟩ := bq3 QB.out
      go_wp2_with fail
      refine wp_region_held_drew (S := fun W => Below w3.drew.heap.size w3.drew W) (by kernel_rfl) (Below.refl _ _) (fun hHeld => ?_)
      refine wpAnyH_with 2 #[true, true, true, true, true, true, false, false] (fun a W => ∃ (m0 : Rx) (n0 : Rx) (h0 : Nat) (h1 : Nat), a = ⟨#[rx a0, rx b0, .pointer (some ⟨w.heap.size, 0, none⟩), .pointer (some ⟨w.heap.size + 1, 0, none⟩), .bool false, .pointer (some ⟨g0, 0, none⟩), .pointer (some ⟨g1, 0, none⟩), .pointer (some ⟨h0, 0, none⟩), .pointer (some ⟨h1, 0, none⟩), undef, undef, undef, undef, undef, .bool true, .bool false, .agg #[.bool a0.s, sv a0.u, sv a0.t], .agg #[.bool b0.s, sv b0.u, sv b0.t], .bool false, .agg #[.bool a0.s, sv a0.u, sv a0.t], rx x0, .agg #[.bool b0.s, sv b0.u, sv b0.t], rx y0, .agg #[.bool a0.s, sv a0.u, sv a0.t], rx m0, .agg #[.bool b0.s, sv b0.u, sv b0.t], rx n0, undef, undef, undef, undef, undef, undef, undef, undef, undef, undef, undef, undef, undef, undef, undef, undef, undef, undef, undef, undef, undef, undef, undef, undef, undef, undef, undef, undef, undef, undef, undef, undef, undef, undef, undef, undef, undef, undef, undef, undef, undef, undef, undef, undef, undef, undef, undef, undef, undef, undef, undef, undef, undef, undef, undef, undef, undef, undef, undef, undef, undef, undef, undef, undef, undef, undef, undef, undef, undef, undef, undef], []⟩ ∧ Sg w3.drew.heap.size w3.drew W [fqblk, fqblk] [some h0, some h1] (fun W => ((True ∧ (m0.r = a0.r ∧ Rf W (rx m0) m0.r 60)) ∧ (n0.r = b0.r ∧ Rf W (rx n0) n0.r 60)))) ?_ (fun Hs211 => ?_)
      · rintro a W ⟨m0, n0, h0, h1, rfl, st0⟩
        have hHeld := st0.1
        have st := hide st0
        clear st0
        obtain ⟨k0, f0⟩ := Sg.cells st.out 0 h0 #[.bool false, .slice none 0 0, .slice none 0 0] 34 rfl rfl 0
        obtain ⟨k1, f1⟩ := Sg.cells st.out 0 h0 #[.bool false, .slice none 0 0, .slice none 0 0] 34 rfl rfl 1
        obtain ⟨k2, f2⟩ := Sg.cells st.out 0 h0 #[.bool false, .slice none 0 0, .slice none 0 0] 34 rfl rfl 2
        simp only [List.getElem?_toArray, List.getElem?_cons_zero, List.getElem?_cons_succ] at k0
        simp only [List.getElem?_toArray, List.getElem?_cons_zero, List.getElem?_cons_succ] at k1
        simp only [List.getElem?_toArray, List.getElem?_cons_zero, List.getElem?_cons_succ] at k2
        have st9 := st.out
        have st9 := Sg.put st9 (Firm2.and (Firm2.and Firm2.yes (Firm2.rfq _ _ _)) (Firm2.rfq _ _ _)) 0 h0 0 _ 34 (.bool m0.s) rfl rfl rfl
        have st9 := Sg.put st9 (Firm2.and (Firm2.and Firm2.yes (Firm2.rfq _ _ _)) (Firm2.rfq _ _ _)) 0 h0 1 _ 34 (sv m0.u) rfl rfl rfl
        have st9 := Sg.put st9 (Firm2.and (Firm2.and Firm2.yes (Firm2.rfq _ _ _)) (Firm2.rfq _ _ _)) 0 h0 2 _ 34 (sv m0.t) rfl rfl rfl
        have st8 := hide st9
        clear st9
        refine wpAnyH_ready (rs := [6]) (by kernel_rfl) (by simp) ?_
        refine AllReadyH.cons rfl (fun K hK => ?_) ?_
        rotate_left
        · exact AllReadyH.nil
        go_simp
        refine hK.out _ _ st8.out.1 (fun hHeld => ?_)
        clear hK K k0 f0 k1 f1 k2 f2 st
        (try simp only [Act.put, List.setIfInBounds_toArray, List.set_cons_zero, List.set_cons_succ])
        generalize (((W.setCell ⟨h0, 0, none⟩ _).setCell ⟨h0, 1, none⟩ _).setCell ⟨h0, 2, none⟩ _) = W5 at *
        have st := st8
        clear st8
        obtain ⟨k0, f0⟩ := Sg.cells st.out 1 h1 #[.bool false, .slice none 0 0, .slice none 0 0] 34 rfl rfl 0
        obtain ⟨k1, f1⟩ := Sg.cells st.out 1 h1 #[.bool false, .slice none 0 0, .slice none 0 0] 34 rfl rfl 1
        obtain ⟨k2, f2⟩ := Sg.cells st.out 1 h1 #[.bool false, .slice none 0 0, .slice none 0 0] 34 rfl rfl 2
        simp only [List.getElem?_toArray, List.getElem?_cons_zero, List.getElem?_cons_succ] at k0
        simp only [List.getElem?_toArray, List.getElem?_cons_zero, List.getElem?_cons_succ] at k1
        simp only [List.getElem?_toArray, List.getElem?_cons_zero, List.getElem?_cons_succ] at k2
        have st9 := st.out
        have st9 := Sg.put st9 (Firm2.and (Firm2.and Firm2.yes (Firm2.rfq _ _ _)) (Firm2.rfq _ _ _)) 1 h1 0 _ 34 (.bool n0.s) rfl rfl rfl
        have st9 := Sg.put st9 (Firm2.and (Firm2.and Firm2.yes (Firm2.rfq _ _ _)) (Firm2.rfq _ _ _)) 1 h1 1 _ 34 (sv n0.u) rfl rfl rfl
        have st9 := Sg.put st9 (Firm2.and (Firm2.and Firm2.yes (Firm2.rfq _ _ _)) (Firm2.rfq _ _ _)) 1 h1 2 _ 34 (sv n0.t) rfl rfl rfl
        have st8 := hide st9
        clear st9
        refine wpAnyH_ready (rs := [7]) (by kernel_rfl) (by simp) ?_
        refine AllReadyH.cons rfl (fun K hK => ?_) ?_
        rotate_left
        · exact AllReadyH.nil
        go_simp
        refine hK.out _ _ st8.out.1 (fun hHeld => ?_)
        clear hK K k0 f0 k1 f1 k2 f2 st
        (try simp only [Act.put, List.setIfInBounds_toArray, List.set_cons_zero, List.set_cons_succ])
        generalize (((W5.setCell ⟨h1, 0, none⟩ _).setCell ⟨h1, 1, none⟩ _).setCell ⟨h1, 2, none⟩ _) = W6 at *
        have st := st8
        clear st8
        refine wpAnyH_done (by kernel_rfl) ?_ _
        clear hHeld
        have s9 := st.out
        have QM := hide (show Fq W6 h0 m0.s (sv m0.u) (sv m0.t) from (s9.2.2.2.1 0 h0 _ rfl rfl).1)
        have QN := hide (show Fq W6 h1 n0.s (sv n0.u) (sv n0.t) from (s9.2.2.2.1 1 h1 _ rfl rfl).1)
        have FM := hide s9.2.2.1.1.2
        have FN := hide s9.2.2.1.2
        replace QA := hide (QA.out.step s9.1)
        replace QB := hide (QB.out.step s9.1)
        replace QX := hide (QX.out.step s9.1)
        replace QY := hide (QY.out.step s9.1)
        replace ZA := hide (ZA.out.step s9.1)
        replace ZB := hide (ZB.out.step s9.1)
        replace ZX := hide (ZX.out.step s9.1)
        replace ZY := hide (ZY.out.step s9.1)
        replace B := hide (Below.step B.out B.out.size s9.1)
        clear s9 st p0 p1 p2 q0 q1 q2
        generalize W6 = M at *
        have C := hide (Below.refl M.heap.size M).drew
        have KX := hide (show x0.r = a0.r from ZX.out.2.1.trans ZA.out.2.1.symm)
        have KY := hide (show y0.r = b0.r from ZY.out.2.1.trans ZB.out.2.1.symm)
        go_wp2_with fail
        go_region_held3 (fun W => (W.cell? ⟨g0, 0, none⟩ = some (.bool x0.s) ∧ W.cell? ⟨g0, 1, none⟩ = some (sv x0.u) ∧ W.cell? ⟨g0, 2, none⟩ = some (sv x0.t)) ∧ (W.cell? ⟨g1, 0, none⟩ = some (.bool y0.s) ∧ W.cell? ⟨g1, 1, none⟩ = some (sv y0.u) ∧ W.cell? ⟨g1, 2, none⟩ = some (sv y0.t)))
          (first | exact ⟨bq3 (QX.out.step C.out), bq3 (QY.out.step C.out)⟩ | exact ⟨bq3 (QX.out.step (Below.step C.out C.out.size (alloc_below _ _))), bq3 (QY.out.step (Below.step C.out C.out.size (alloc_below _ _)))⟩)
          (first
            | (go_at_call 21; refine Calls.mono (add_g ((ZX.out.step C.out).raq KX.out) ((ZY.out.step C.out).raq KY.out) (by omega) (by omega) (by omega) (by omega)) ?_; rintro e wx ⟨l1, rfl, hz, rz, bx⟩; have L1 := hide ((rz.mono (B' := M.heap.size) C.out.size).more (M := 25) (by omega)); have H1 := hide (show l1.r = a0.r + b0.r from hz); clear hz rz; replace C := hide (Below.step C.out C.out.size bx); clear bx)
            | (go_at_call 22; refine Calls.mono (sub_g ((ZX.out.step C.out).raq KX.out) ((ZY.out.step C.out).raq KY.out) (by omega) (by omega)) ?_; rintro e wx ⟨l2, rfl, hz, rz, bx⟩; have L2 := hide ((rz.mono (B' := M.heap.size) C.out.size).more (M := 25) (by omega)); have H2 := hide (show l2.r = a0.r - b0.r from hz); replace L1 := hide (L1.out.step bx); clear hz rz; replace C := hide (Below.step C.out C.out.size bx); clear bx)
            | (go_at_call 23; refine Calls.mono (mul_g ((ZX.out.step C.out).raq KX.out) ((ZY.out.step C.out).raq KY.out) (by omega) (by omega) (by omega) (by omega)) ?_; rintro e wx ⟨l3, rfl, hz, rz, bx⟩; have L3 := hide ((rz.mono (B' := M.heap.size) C.out.size).more (M := 25) (by omega)); have H3 := hide (show l3.r = a0.r * b0.r from hz); replace L1 := hide (L1.out.step bx); replace L2 := hide (L2.out.step bx); clear hz rz; replace C := hide (Below.step C.out C.out.size bx); clear bx)
            | (go_at_call 24; refine Calls.mono (neg_g ((ZX.out.step C.out).raq KX.out) (by omega) (by omega)) ?_; rintro e wx ⟨l4, rfl, hz, rz, bx⟩; have L4 := hide ((rz.mono (B' := M.heap.size) C.out.size).more (M := 25) (by omega)); have H4 := hide (show l4.r = -a0.r from hz); replace L1 := hide (L1.out.step bx); replace L2 := hide (L2.out.step bx); replace L3 := hide (L3.out.step bx); clear hz rz; replace C := hide (Below.step C.out C.out.size bx); clear bx)
            | (go_at_call 25; refine Calls.mono (form_g ((ZX.out.step C.out).raq KX.out) (by omega) (by omega)) ?_; rintro e wx ⟨l5, rfl, hz, rz, bx⟩; have L5 := hide ((rz.mono (B' := M.heap.size) C.out.size).more (M := 25) (by omega)); have H5 := hide (show l5.r = a0.r from hz); replace L1 := hide (L1.out.step bx); replace L2 := hide (L2.out.step bx); replace L3 := hide (L3.out.step bx); replace L4 := hide (L4.out.step bx); clear hz rz; replace C := hide (Below.step C.out C.out.size bx); clear bx))
        all_goals
          generalize wx = w5 at *
          have b9 := alloc_below w5 (.cells #[.bool l1.s, sv l1.u, sv l1.t, .bool l2.s, sv l2.u, sv l2.t, .bool l3.s, sv l3.u, sv l3.t, .bool l4.s, sv l4.u, sv l4.t, .bool l5.s, sv l5.u, sv l5.t] 26)
          have FG := hide (show Fg (w5.alloc (.cells #[.bool l1.s, sv l1.u, sv l1.t, .bool l2.s, sv l2.u, sv l2.t, .bool l3.s, sv l3.u, sv l3.t, .bool l4.s, sv l4.u, sv l4.t, .bool l5.s, sv l5.u, sv l5.t] 26)) M.heap.size (.slice (some ⟨w5.heap.size, 0, none⟩) 5 5) [l1, l2, l3, l4, l5] 25 from
            ⟨Ow.lit (B := M.heap.size) er_len w5 26 [l1, l2, l3, l4, l5] _ rfl C.out.size (by simp [maxLen]), fun x hx => by
              simp only [List.mem_cons, List.not_mem_nil, or_false] at hx
              rcases hx with rfl | rfl | rfl | rfl | rfl
              · exact L1.out.step b9
              · exact L2.out.step b9
              · exact L3.out.step b9
              · exact L4.out.step b9
              · exact L5.out.step b9⟩)
          have b10 := b9.trans ((Below.refl (w5.alloc (.cells #[.bool l1.s, sv l1.u, sv l1.t, .bool l2.s, sv l2.u, sv l2.t, .bool l3.s, sv l3.u, sv l3.t, .bool l4.s, sv l4.u, sv l4.t, .bool l5.s, sv l5.u, sv l5.t] 26)).heap.size (w5.alloc (.cells #[.bool l1.s, sv l1.u, sv l1.t, .bool l2.s, sv l2.u, sv l2.t, .bool l3.s, sv l3.u, sv l3.t, .bool l4.s, sv l4.u, sv l4.t, .bool l5.s, sv l5.u, sv l5.t] 26))).drew.mono b9.size)
          replace FG := hide (FG.out.step (Below.refl _ _).drew)
          replace C := hide (Below.step C.out C.out.size b10)
          clear L1 L2 L3 L4 L5 b9 b10
          go_wp2_with fail
          go_region_held3 (fun W => (W.cell? ⟨h0, 0, none⟩ = some (.bool m0.s) ∧ W.cell? ⟨h0, 1, none⟩ = some (sv m0.u) ∧ W.cell? ⟨h0, 2, none⟩ = some (sv m0.t)) ∧ (W.cell? ⟨h1, 0, none⟩ = some (.bool n0.s) ∧ W.cell? ⟨h1, 1, none⟩ = some (sv n0.u) ∧ W.cell? ⟨h1, 2, none⟩ = some (sv n0.t)))
            (first | exact ⟨⟨(QM.out.step C.out).all.1, (QM.out.step C.out).all.2.1, (QM.out.step C.out).all.2.2.1⟩, ⟨(QN.out.step C.out).all.1, (QN.out.step C.out).all.2.1, (QN.out.step C.out).all.2.2.1⟩⟩ | exact ⟨⟨(QM.out.step (Below.step C.out C.out.size (alloc_below _ _))).all.1, (QM.out.step (Below.step C.out C.out.size (alloc_below _ _))).all.2.1, (QM.out.step (Below.step C.out C.out.size (alloc_below _ _))).all.2.2.1⟩, ⟨(QN.out.step (Below.step C.out C.out.size (alloc_below _ _))).all.1, (QN.out.step (Below.step C.out C.out.size (alloc_below _ _))).all.2.1, (QN.out.step (Below.step C.out C.out.size (alloc_below _ _))).all.2.2.1⟩⟩)
            (first
              | (go_at_call 27; refine Calls.mono (rqadd_f (show Rf _ (rx m0) a0.r 60 by have h := FM.out; rw [← h.1]; exact h.2.step C.out) (show Rf _ (rx n0) b0.r 60 by have h := FN.out; rw [← h.1]; exact h.2.step C.out) (by omega) (by omega) (by omega)) ?_; rintro e wx ⟨y1, rfl, hz, rz, bx⟩; have Y1 := hide (show Rf wx (rx y1) (a0.r + b0.r) 121 from hz ▸ rz); replace FG := hide (FG.out.step bx); clear hz rz; replace C := hide (Below.step C.out C.out.size bx); clear bx)
              | (go_at_call 26; refine Calls.mono (rfto_f Y1.out (by omega)) ?_; rintro e wx ⟨k1, rfl, hz, rz, bx⟩; have K1 := hide (And.intro (show k1.r = a0.r + b0.r from hz) (rz.more (M := 121) (by omega))); replace FG := hide (FG.out.step bx); clear hz rz Y1; replace C := hide (Below.step C.out C.out.size bx); clear bx)
              | (go_at_call 28; refine Calls.mono (rqsub_f (show Rf _ (rx m0) a0.r 60 by have h := FM.out; rw [← h.1]; exact h.2.step C.out) (show Rf _ (rx n0) b0.r 60 by have h := FN.out; rw [← h.1]; exact h.2.step C.out) (by omega) (by omega)) ?_; rintro e wx ⟨y2, rfl, hz, rz, bx⟩; have Y2 := hide (show Rf wx (rx y2) (a0.r - b0.r) 121 from hz ▸ rz); replace FG := hide (FG.out.step bx); replace K1 := hide (And.intro K1.out.1 (K1.out.2.step bx)); clear hz rz; replace C := hide (Below.step C.out C.out.size bx); clear bx)
              | (go_at_call 26; refine Calls.mono (rfto_f Y2.out (by omega)) ?_; rintro e wx ⟨k2, rfl, hz, rz, bx⟩; have K2 := hide (And.intro (show k2.r = a0.r - b0.r from hz) (rz.more (M := 121) (by omega))); replace FG := hide (FG.out.step bx); replace K1 := hide (And.intro K1.out.1 (K1.out.2.step bx)); clear hz rz Y2; replace C := hide (Below.step C.out C.out.size bx); clear bx)
              | (go_at_call 29; refine Calls.mono (rqmul_f (show Rf _ (rx m0) a0.r 60 by have h := FM.out; rw [← h.1]; exact h.2.step C.out) (show Rf _ (rx n0) b0.r 60 by have h := FN.out; rw [← h.1]; exact h.2.step C.out) (by omega) (by omega) (by omega)) ?_; rintro e wx ⟨y3, rfl, hz, rz, bx⟩; have Y3 := hide (show Rf wx (rx y3) (a0.r * b0.r) 120 from hz ▸ rz); replace FG := hide (FG.out.step bx); replace K1 := hide (And.intro K1.out.1 (K1.out.2.step bx)); replace K2 := hide (And.intro K2.out.1 (K2.out.2.step bx)); clear hz rz; replace C := hide (Below.step C.out C.out.size bx); clear bx)
              | (go_at_call 26; refine Calls.mono (rfto_f Y3.out (by omega)) ?_; rintro e wx ⟨k3, rfl, hz, rz, bx⟩; have K3 := hide (And.intro (show k3.r = a0.r * b0.r from hz) (rz.more (M := 121) (by omega))); replace FG := hide (FG.out.step bx); replace K1 := hide (And.intro K1.out.1 (K1.out.2.step bx)); replace K2 := hide (And.intro K2.out.1 (K2.out.2.step bx)); clear hz rz Y3; replace C := hide (Below.step C.out C.out.size bx); clear bx)
              | (go_at_call 30; refine Calls.mono (rqneg_f (show Rf _ (rx m0) a0.r 60 by have h := FM.out; rw [← h.1]; exact h.2.step C.out) (by omega)) ?_; rintro e wx ⟨y4, rfl, hz, rz, bx⟩; have Y4 := hide (show Rf wx (rx y4) (-a0.r) 60 from hz ▸ rz); replace FG := hide (FG.out.step bx); replace K1 := hide (And.intro K1.out.1 (K1.out.2.step bx)); replace K2 := hide (And.intro K2.out.1 (K2.out.2.step bx)); replace K3 := hide (And.intro K3.out.1 (K3.out.2.step bx)); clear hz rz; replace C := hide (Below.step C.out C.out.size bx); clear bx)
              | (go_at_call 26; refine Calls.mono (rfto_f Y4.out (by omega)) ?_; rintro e wx ⟨k4, rfl, hz, rz, bx⟩; have K4 := hide (And.intro (show k4.r = -a0.r from hz) (rz.more (M := 121) (by omega))); replace FG := hide (FG.out.step bx); replace K1 := hide (And.intro K1.out.1 (K1.out.2.step bx)); replace K2 := hide (And.intro K2.out.1 (K2.out.2.step bx)); replace K3 := hide (And.intro K3.out.1 (K3.out.2.step bx)); clear hz rz Y4; replace C := hide (Below.step C.out C.out.size bx); clear bx)
              | (go_at_call 26; refine Calls.mono (rfto_f (show Rf _ (rx m0) a0.r 60 by have h := FM.out; rw [← h.1]; exact h.2.step C.out) (by omega)) ?_; rintro e wx ⟨k5, rfl, hz, rz, bx⟩; have K5 := hide (And.intro (show k5.r = a0.r from hz) (rz.more (M := 121) (by omega))); replace FG := hide (FG.out.step bx); replace K1 := hide (And.intro K1.out.1 (K1.out.2.step bx)); replace K2 := hide (And.intro K2.out.1 (K2.out.2.step bx)); replace K3 := hide (And.intro K3.out.1 (K3.out.2.step bx)); replace K4 := hide (And.intro K4.out.1 (K4.out.2.step bx)); clear hz rz; replace C := hide (Below.step C.out C.out.size bx); clear bx))
          all_goals
            generalize wx = w7 at *
            have b9 := alloc_below w7 (.cells #[.bool k1.s, sv k1.u, sv k1.t, .bool k2.s, sv k2.u, sv k2.t, .bool k3.s, sv k3.u, sv k3.t, .bool k4.s, sv k4.u, sv k4.t, .bool k5.s, sv k5.u, sv k5.t] 26)
            have FK := hide (show Fc (w7.alloc (.cells #[.bool k1.s, sv k1.u, sv k1.t, .bool k2.s, sv k2.u, sv k2.t, .bool k3.s, sv k3.u, sv k3.t, .bool k4.s, sv k4.u, sv k4.t, .bool k5.s, sv k5.u, sv k5.t] 26)) (.slice (some ⟨w7.heap.size, 0, none⟩) 5 5) [k1, k2, k3, k4, k5] 121 from
              ⟨(Ow.lit (B := w7.heap.size) er_len w7 26 [k1, k2, k3, k4, k5] _ rfl (Nat.le_refl _) (by simp [maxLen])).rl er_len, fun x hx => by
                simp only [List.mem_cons, List.not_mem_nil, or_false] at hx
                rcases hx with rfl | rfl | rfl | rfl | rfl
                · exact K1.out.2.step b9
                · exact K2.out.2.step b9
                · exact K3.out.2.step b9
                · exact K4.out.2.step b9
                · exact K5.out.2.step b9⟩)
            have EK := hide (show ([l1, l2, l3, l4, l5] : List Rx).map Rx.r = ([k1, k2, k3, k4, k5] : List Rx).map Rx.r by simp only [List.map_cons, List.map_nil, H1.out, H2.out, H3.out, H4.out, H5.out, K1.out.1, K2.out.1, K3.out.1, K4.out.1, K5.out.1])
            have b10 := b9.trans ((Below.refl (w7.alloc (.cells #[.bool k1.s, sv k1.u, sv k1.t, .bool k2.s, sv k2.u, sv k2.t, .bool k3.s, sv k3.u, sv k3.t, .bool k4.s, sv k4.u, sv k4.t, .bool k5.s, sv k5.u, sv k5.t] 26)).heap.size (w7.alloc (.cells #[.bool k1.s, sv k1.u, sv k1.t, .bool k2.s, sv k2.u, sv k2.t, .bool k3.s, sv k3.u, sv k3.t, .bool k4.s, sv k4.u, sv k4.t, .bool k5.s, sv k5.u, sv k5.t] 26))).drew.mono b9.size)
            replace FK := hide (FK.out.step (Below.refl _ _).drew)
            replace FG := hide (FG.out.step b10)
            replace C := hide (Below.step C.out C.out.size b10)
            clear K1 K2 K3 K4 K5 b9 b10
            go_wp2_with fail
            go_region_held3 (fun W => (W.cell? ⟨g0, 0, none⟩ = some (.bool x0.s) ∧ W.cell? ⟨g0, 1, none⟩ = some (sv x0.u) ∧ W.cell? ⟨g0, 2, none⟩ = some (sv x0.t)) ∧ (W.cell? ⟨g1, 0, none⟩ = some (.bool y0.s) ∧ W.cell? ⟨g1, 1, none⟩ = some (sv y0.u) ∧ W.cell? ⟨g1, 2, none⟩ = some (sv y0.t)) ∧ (W.cell? ⟨h0, 0, none⟩ = some (.bool m0.s) ∧ W.cell? ⟨h0, 1, none⟩ = some (sv m0.u) ∧ W.cell? ⟨h0, 2, none⟩ = some (sv m0.t)) ∧ (W.cell? ⟨h1, 0, none⟩ = some (.bool n0.s) ∧ W.cell? ⟨h1, 1, none⟩ = some (sv n0.u) ∧ W.cell? ⟨h1, 2, none⟩ = some (sv n0.t)))
              (first | exact ⟨bq3 (QX.out.step C.out), bq3 (QY.out.step C.out), ⟨(QM.out.step C.out).all.1, (QM.out.step C.out).all.2.1, (QM.out.step C.out).all.2.2.1⟩, ⟨(QN.out.step C.out).all.1, (QN.out.step C.out).all.2.1, (QN.out.step C.out).all.2.2.1⟩⟩ | exact ⟨bq3 (QX.out.step (Below.step C.out C.out.size (alloc_below _ _))), bq3 (QY.out.step (Below.step C.out C.out.size (alloc_below _ _))), ⟨(QM.out.step (Below.step C.out C.out.size (alloc_below _ _))).all.1, (QM.out.step (Below.step C.out C.out.size (alloc_below _ _))).all.2.1, (QM.out.step (Below.step C.out C.out.size (alloc_below _ _))).all.2.2.1⟩, ⟨(QN.out.step (Below.step C.out C.out.size (alloc_below _ _))).all.1, (QN.out.step (Below.step C.out C.out.size (alloc_below _ _))).all.2.1, (QN.out.step (Below.step C.out C.out.size (alloc_below _ _))).all.2.2.1⟩⟩)
              (first
                | (go_at_call 31; refine Calls.mono (sameall_t FG.out.fc FK.out EK.out) ?_; rintro e wx ⟨rfl, bx⟩; replace FG := hide (FG.out.step bx); clear FK; replace C := hide (Below.step C.out C.out.size bx); clear bx)
                | (go_at_call 32; refine Calls.mono (sign_r ((ZX.out.step C.out).raq KX.out) (by omega)) ?_; rintro e wx ⟨rfl, bx⟩; replace FG := hide (FG.out.step bx); replace C := hide (Below.step C.out C.out.size bx); clear bx)
                | (go_at_call 33; refine Calls.mono (rqsign_any (show Rf _ (rx m0) a0.r 60 by have h := FM.out; rw [← h.1]; exact h.2.step C.out)) ?_; rintro e wx ⟨rfl, bx⟩; replace FG := hide (FG.out.step bx); replace C := hide (Below.step C.out C.out.size bx); clear bx)
                | (go_at_call 34; refine Calls.mono (cmp_r ((ZX.out.step C.out).raq KX.out) ((ZY.out.step C.out).raq KY.out) (by omega) (by omega)) ?_; rintro e wx ⟨rfl, bx⟩; replace FG := hide (FG.out.step bx); replace C := hide (Below.step C.out C.out.size bx); clear bx)
                | (go_at_call 35; refine Calls.mono (rqcmp_any (show Rf _ (rx m0) a0.r 60 by have h := FM.out; rw [← h.1]; exact h.2.step C.out) (show Rf _ (rx n0) b0.r 60 by have h := FN.out; rw [← h.1]; exact h.2.step C.out) (by omega) (by omega)) ?_; rintro e wx ⟨rfl, bx⟩; replace FG := hide (FG.out.step bx); replace C := hide (Below.step C.out C.out.size bx); clear bx))
            all_goals
              generalize wx = w9 at *
              obtain ⟨ls, hls⟩ : ∃ ls, ls = [l1, l2, l3, l4, l5] := ⟨_, rfl⟩
              rw [← hls] at FG
              have NL := hide (show ls.length = 5 by rw [hls]; rfl)
              clear hls H1 H2 H3 H4 H5 EK
              go_wp2_with fail
              go_loopw [80] (fun iv wr => ∃ k : Nat, k ≤ 5 ∧ iv = .int .i64 (k : Int) ∧ Hid (Spo M.heap.size none w9 wr)) (fun iv _ => 5 - (intOf iv).toNat)
              case atStart => exact ⟨0, by omega, rfl, hide (Spo.refl _ _ _)⟩
              case round =>
                obtain ⟨k, hk, rfl, S⟩ := hrel
                by_cases hlt : k < 5
                · obtain ⟨x, hx⟩ := len_of (d := ls) (k := k) (by rw [NL.out]; exact hlt)
                  have OW := hide (S.out.ow (by decide) (.inr (by simp [Value.ownBlock])) FG.out.1)
                  obtain ⟨c0, c1, c2⟩ := (E3.of (OW.out.rl er_len) hx).cells
                  rw [Nat.zero_add] at c0 c1 c2
                  have X9 := FG.out.2 x (fl_mem' hx)
                  have b8 := alloc_below wr (rbox x.s (sv x.u) (sv x.t))
                  have UW := hide ((S.out.2.2.1 _ _ X9.2.1).step b8)
                  have TW := hide ((S.out.2.2.1 _ _ X9.2.2).step b8)
                  have NW := hide X9.1.n_le
                  have SZ := hide (Nat.le_trans C.out.size (Nat.le_trans S.out.2.1 b8.size))
                  have S8 := hide (S.out.trans (Spo.of_below (row := none) b8 (Nat.le_trans C.out.size S.out.2.1)))
                  obtain ⟨p0, p1, p2⟩ := bq3 (Bq.new wr x.s (sv x.u) (sv x.t))
                  have l0 : (0 : Int) ≤ (k : Int) := by omega
                  have l1 : (k : Int) < 5 := by omega
                  clear hx X9 b8 S OW
                  go_wp2_with fail
                  refine (rspoil_w (s := x.s) UW.out TW.out (show x.u.2.1 ≤ maxLen by have := NW.out.1; unfold maxLen; omega) (show x.t.2.1 ≤ maxLen by have := NW.out.2; unfold maxLen; omega) SZ.out).mono ?_
                  rintro e w10 ⟨rfl, sp⟩
                  have S9 := hide (S8.out.trans (Spo.of sp))
                  clear sp S8 UW TW c0 c1 c2 p0 p1 p2
                  go_wp2_with fail
                  exact ⟨⟨k + 1, by omega, by go_num, S9⟩, by simp [intOf]; omega⟩
                · obtain rfl : k = 5 := by omega
                  replace C := hide (C.out.trans S.out.1)
                  have A9 := hide (QA.out.step C.out)
                  have X9 := hide (QX.out.step C.out)
                  obtain ⟨p0, p1, p2⟩ := bq3 A9.out
                  obtain ⟨q0, q1, q2⟩ := bq3 X9.out
                  clear S FG
                  go_wp2_with fail
                  refine (rsame_l (ZX.out.step C.out).rl (ZA.out.step C.out).rl).mono ?_
                  rintro e w10 ⟨rfl, bx⟩
                  replace C := hide (Below.step C.out C.out.size bx)
                  clear bx p0 p1 p2 q0 q1 q2 A9 X9
                  have A9 := hide (QB.out.step C.out)
                  have X9 := hide (QY.out.step C.out)
                  obtain ⟨p0, p1, p2⟩ := bq3 A9.out
                  obtain ⟨q0, q1, q2⟩ := bq3 X9.out
                  go_wp2_with fail
                  refine (rsame_l (ZY.out.step C.out).rl (ZB.out.step C.out).rl).mono ?_
                  rintro e w11 ⟨rfl, bx⟩
                  replace C := hide (Below.step C.out C.out.size bx)
                  clear bx p0 p1 p2 q0 q1 q2
                  go_wp2_with fail
                  go_ret
                  exact ⟨rfl, Below.step B.out B.out.size C.out⟩
      refine wpAnyH_with 3 #[true, true, true, true, true, false, false, false] (fun a W => ∃ (m0 : Rx) (n0 : Rx) (h0 : Nat), a = ⟨#[rx a0, rx b0, .pointer (some ⟨w.heap.size, 0, none⟩), .pointer (some ⟨w.heap.size + 1, 0, none⟩), .bool false, .pointer (some ⟨g0, 0, none⟩), .pointer (some ⟨g1, 0, none⟩), .pointer (some ⟨h0, 0, none⟩), undef, undef, undef, undef, undef, undef, .bool true, .bool false, .agg #[.bool a0.s, sv a0.u, sv a0.t], .agg #[.bool b0.s, sv b0.u, sv b0.t], .bool false, .agg #[.bool a0.s, sv a0.u, sv a0.t], rx x0, .agg #[.bool b0.s, sv b0.u, sv b0.t], rx y0, .agg #[.bool a0.s, sv a0.u, sv a0.t], rx m0, .agg #[.bool b0.s, sv b0.u, sv b0.t], rx n0, undef, undef, undef, undef, undef, undef, undef, undef, undef, undef, undef, undef, undef, undef, undef, undef, undef, undef, undef, undef, undef, undef, undef, undef, undef, undef, undef, undef, undef, undef, undef, undef, undef, undef, undef, undef, undef, undef, undef, undef, undef, undef, undef, undef, undef, undef, undef, undef, undef, undef, undef, undef, undef, undef, undef, undef, undef, undef, undef, undef, undef, undef, undef, undef, undef, undef, undef, undef, undef, undef, undef], []⟩ ∧ Sg w3.drew.heap.size w3.drew W [fqblk, fqblk] [some h0, none] (fun W => ((True ∧ (m0.r = a0.r ∧ Rf W (rx m0) m0.r 60)) ∧ (n0.r = b0.r ∧ Rf W (rx n0) n0.r 60)))) ?_ (fun Hs210 => ?_)
      · rintro a W ⟨m0, n0, h0, rfl, st0⟩
        have hHeld := st0.1
        have st := hide st0
        clear st0
        refine wpAnyH_ready (rs := [5]) (by kernel_rfl) (by simp) ?_
        refine AllReadyH.cons rfl (fun K hK => ?_) ?_
        · go_simp
          have st2 := Sg.make st.out (Firm2.and (Firm2.and Firm2.yes (Firm2.rfq _ _ _)) (Firm2.rfq _ _ _)) 1 _ rfl (by simp)
          refine hK.out _ _ st2.1 (fun hHeld => ?_)
          (try simp only [Act.put, List.setIfInBounds_toArray, List.set_cons_zero, List.set_cons_succ])
          exact Hs211.out _ _ ⟨m0, n0, h0, W.heap.size, rfl, st2⟩
        exact AllReadyH.nil
      refine wpAnyH_with 3 #[true, true, true, true, false, true, false, false] (fun a W => ∃ (m0 : Rx) (n0 : Rx) (h1 : Nat), a = ⟨#[rx a0, rx b0, .pointer (some ⟨w.heap.size, 0, none⟩), .pointer (some ⟨w.heap.size + 1, 0, none⟩), .bool false, .pointer (some ⟨g0, 0, none⟩), .pointer (some ⟨g1, 0, none⟩), undef, .pointer (some ⟨h1, 0, none⟩), undef, undef, undef, undef, undef, .bool true, .bool false, .agg #[.bool a0.s, sv a0.u, sv a0.t], .agg #[.bool b0.s, sv b0.u, sv b0.t], .bool false, .agg #[.bool a0.s, sv a0.u, sv a0.t], rx x0, .agg #[.bool b0.s, sv b0.u, sv b0.t], rx y0, .agg #[.bool a0.s, sv a0.u, sv a0.t], rx m0, .agg #[.bool b0.s, sv b0.u, sv b0.t], rx n0, undef, undef, undef, undef, undef, undef, undef, undef, undef, undef, undef, undef, undef, undef, undef, undef, undef, undef, undef, undef, undef, undef, undef, undef, undef, undef, undef, undef, undef, undef, undef, undef, undef, undef, undef, undef, undef, undef, undef, undef, undef, undef, undef, undef, undef, undef, undef, undef, undef, undef, undef, undef, undef, undef, undef, undef, undef, undef, undef, undef, undef, undef, undef, undef, undef, undef, undef, undef, undef, undef, undef], []⟩ ∧ Sg w3.drew.heap.size w3.drew W [fqblk, fqblk] [none, some h1] (fun W => ((True ∧ (m0.r = a0.r ∧ Rf W (rx m0) m0.r 60)) ∧ (n0.r = b0.r ∧ Rf W (rx n0) n0.r 60)))) ?_ (fun Hs201 => ?_)
      · rintro a W ⟨m0, n0, h1, rfl, st0⟩
        have hHeld := st0.1
        have st := hide st0
        clear st0
        refine wpAnyH_ready (rs := [4]) (by kernel_rfl) (by simp) ?_
        refine AllReadyH.cons rfl (fun K hK => ?_) ?_
        · go_simp
          have st2 := Sg.make st.out (Firm2.and (Firm2.and Firm2.yes (Firm2.rfq _ _ _)) (Firm2.rfq _ _ _)) 0 _ rfl (by simp)
          refine hK.out _ _ st2.1 (fun hHeld => ?_)
          (try simp only [Act.put, List.setIfInBounds_toArray, List.set_cons_zero, List.set_cons_succ])
          exact Hs211.out _ _ ⟨m0, n0, W.heap.size, h1, rfl, st2⟩
        exact AllReadyH.nil
      refine wpAnyH_with 4 #[true, true, true, true, false, false, false, false] (fun a W => ∃ (m0 : Rx) (n0 : Rx), a = ⟨#[rx a0, rx b0, .pointer (some ⟨w.heap.size, 0, none⟩), .pointer (some ⟨w.heap.size + 1, 0, none⟩), .bool false, .pointer (some ⟨g0, 0, none⟩), .pointer (some ⟨g1, 0, none⟩), undef, undef, undef, undef, undef, undef, undef, .bool true, .bool false, .agg #[.bool a0.s, sv a0.u, sv a0.t], .agg #[.bool b0.s, sv b0.u, sv b0.t], .bool false, .agg #[.bool a0.s, sv a0.u, sv a0.t], rx x0, .agg #[.bool b0.s, sv b0.u, sv b0.t], rx y0, .agg #[.bool a0.s, sv a0.u, sv a0.t], rx m0, .agg #[.bool b0.s, sv b0.u, sv b0.t], rx n0, undef, undef, undef, undef, undef, undef, undef, undef, undef, undef, undef, undef, undef, undef, undef, undef, undef, undef, undef, undef, undef, undef, undef, undef, undef, undef, undef, undef, undef, undef, undef, undef, undef, undef, undef, undef, undef, undef, undef, undef, undef, undef, undef, undef, undef, undef, undef, undef, undef, undef, undef, undef, undef, undef, undef, undef, undef, undef, undef, undef, undef, undef, undef, undef, undef, undef, undef, undef, undef, undef, undef], []⟩ ∧ Sg w3.drew.heap.size w3.drew W [fqblk, fqblk] [none, none] (fun W => ((True ∧ (m0.r = a0.r ∧ Rf W (rx m0) m0.r 60)) ∧ (n0.r = b0.r ∧ Rf W (rx n0) n0.r 60)))) ?_ (fun Hs200 => ?_)
      · rintro a W ⟨m0, n0, rfl, st0⟩
        have hHeld := st0.1
        have st := hide st0
        clear st0
        refine wpAnyH_ready (rs := [4, 5]) (by kernel_rfl) (by simp) ?_
        refine AllReadyH.cons rfl (fun K hK => ?_) ?_
        · go_simp
          have st2 := Sg.make st.out (Firm2.and (Firm2.and Firm2.yes (Firm2.rfq _ _ _)) (Firm2.rfq _ _ _)) 0 _ rfl (by simp)
          refine hK.out _ _ st2.1 (fun hHeld => ?_)
          (try simp only [Act.put, List.setIfInBounds_toArray, List.set_cons_zero, List.set_cons_succ])
          exact Hs210.out _ _ ⟨m0, n0, W.heap.size, rfl, st2⟩
        refine AllReadyH.cons rfl (fun K hK => ?_) ?_
        · go_simp
          have st2 := Sg.make st.out (Firm2.and (Firm2.and Firm2.yes (Firm2.rfq _ _ _)) (Firm2.rfq _ _ _)) 1 _ rfl (by simp)
          refine hK.out _ _ st2.1 (fun hHeld => ?_)
          (try simp only [Act.put, List.setIfInBounds_toArray, List.set_cons_zero, List.set_cons_succ])
          exact Hs201.out _ _ ⟨m0, n0, W.heap.size, rfl, st2⟩
        exact AllReadyH.nil
      refine wpAnyH_with 3 #[true, true, true, false, true, true, false, false] (fun a W => ∃ (m0 : Rx) (h0 : Nat) (h1 : Nat), a = ⟨#[rx a0, rx b0, .pointer (some ⟨w.heap.size, 0, none⟩), .pointer (some ⟨w.heap.size + 1, 0, none⟩), .bool false, .pointer (some ⟨g0, 0, none⟩), .pointer (some ⟨g1, 0, none⟩), .pointer (some ⟨h0, 0, none⟩), .pointer (some ⟨h1, 0, none⟩), undef, undef, undef, undef, undef, .bool true, .bool false, .agg #[.bool a0.s, sv a0.u, sv a0.t], .agg #[.bool b0.s, sv b0.u, sv b0.t], .bool false, .agg #[.bool a0.s, sv a0.u, sv a0.t], rx x0, .agg #[.bool b0.s, sv b0.u, sv b0.t], rx y0, .agg #[.bool a0.s, sv a0.u, sv a0.t], rx m0, .agg #[.bool b0.s, sv b0.u, sv b0.t], undef, undef, undef, undef, undef, undef, undef, undef, undef, undef, undef, undef, undef, undef, undef, undef, undef, undef, undef, undef, undef, undef, undef, undef, undef, undef, undef, undef, undef, undef, undef, undef, undef, undef, undef, undef, undef, undef, undef, undef, undef, undef, undef, undef, undef, undef, undef, undef, undef, undef, undef, undef, undef, undef, undef, undef, undef, undef, undef, undef, undef, undef, undef, undef, undef, undef, undef, undef, undef, undef, undef, undef], []⟩ ∧ Sg w3.drew.heap.size w3.drew W [fqblk, fqblk] [some h0, some h1] (fun W => (True ∧ (m0.r = a0.r ∧ Rf W (rx m0) m0.r 60)))) ?_ (fun Hs111 => ?_)
      · rintro a W ⟨m0, h0, h1, rfl, st0⟩
        have hHeld := st0.1
        have st := hide st0
        clear st0
        refine wpAnyH_ready (rs := [3]) (by kernel_rfl) (by simp) ?_
        refine AllReadyH.cons rfl (fun K hK => ?_) ?_
        · go_simp
          go_at_call 20
          refine Calls.mono (rof_f (L := 12) (ZB.out.step st.out.1).ra (by omega) (by omega)) ?_
          rintro e wx ⟨n0, rfl, hk, hr, bx⟩
          have tx := And.intro hk hr
          clear hk hr
          try dsimp only
          have st2 := Sg.call (G := fun W => (n0.r = b0.r ∧ Rf W (rx n0) n0.r 60)) st.out bx (Firm2.and Firm2.yes (Firm2.rfq _ _ _)) tx
          have hSt := hide st2
          refine hK.out _ _ st2.1 (fun hHeld => ?_)
          clear hK K st2
          (try simp only [Act.put, List.setIfInBounds_toArray, List.set_cons_zero, List.set_cons_succ])
          exact Hs211.out _ _ ⟨m0, n0, h0, h1, rfl, hSt.out⟩
        exact AllReadyH.nil
      refine wpAnyH_with 4 #[true, true, true, false, true, false, false, false] (fun a W => ∃ (m0 : Rx) (h0 : Nat), a = ⟨#[rx a0, rx b0, .pointer (some ⟨w.heap.size, 0, none⟩), .pointer (some ⟨w.heap.size + 1, 0, none⟩), .bool false, .pointer (some ⟨g0, 0, none⟩), .pointer (some ⟨g1, 0, none⟩), .pointer (some ⟨h0, 0, none⟩), undef, undef, undef, undef, undef, undef, .bool true, .bool false, .agg #[.bool a0.s, sv a0.u, sv a0.t], .agg #[.bool b0.s, sv b0.u, sv b0.t], .bool false, .agg #[.bool a0.s, sv a0.u, sv a0.t], rx x0, .agg #[.bool b0.s, sv b0.u, sv b0.t], rx y0, .agg #[.bool a0.s, sv a0.u, sv a0.t], rx m0, .agg #[.bool b0.s, sv b0.u, sv b0.t], undef, undef, undef, undef, undef, undef, undef, undef, undef, undef, undef, undef, undef, undef, undef, undef, undef, undef, undef, undef, undef, undef, undef, undef, undef, undef, undef, undef, undef, undef, undef, undef, undef, undef, undef, undef, undef, undef, undef, undef, undef, undef, undef, undef, undef, undef, undef, undef, undef, undef, undef, undef, undef, undef, undef, undef, undef, undef, undef, undef, undef, undef, undef, undef, undef, undef, undef, undef, undef, undef, undef, undef], []⟩ ∧ Sg w3.drew.heap.size w3.drew W [fqblk, fqblk] [some h0, none] (fun W => (True ∧ (m0.r = a0.r ∧ Rf W (rx m0) m0.r 60)))) ?_ (fun Hs110 => ?_)
      · rintro a W ⟨m0, h0, rfl, st0⟩
        have hHeld := st0.1
        have st := hide st0
        clear st0
        refine wpAnyH_ready (rs := [3, 5]) (by kernel_rfl) (by simp) ?_
        refine AllReadyH.cons rfl (fun K hK => ?_) ?_
        · go_simp
          go_at_call 20
          refine Calls.mono (rof_f (L := 12) (ZB.out.step st.out.1).ra (by omega) (by omega)) ?_
          rintro e wx ⟨n0, rfl, hk, hr, bx⟩
          have tx := And.intro hk hr
          clear hk hr
          try dsimp only
          have st2 := Sg.call (G := fun W => (n0.r = b0.r ∧ Rf W (rx n0) n0.r 60)) st.out bx (Firm2.and Firm2.yes (Firm2.rfq _ _ _)) tx
          have hSt := hide st2
          refine hK.out _ _ st2.1 (fun hHeld => ?_)
          clear hK K st2
          (try simp only [Act.put, List.setIfInBounds_toArray, List.set_cons_zero, List.set_cons_succ])
          exact Hs210.out _ _ ⟨m0, n0, h0, rfl, hSt.out⟩
        refine AllReadyH.cons rfl (fun K hK => ?_) ?_
        · go_simp
          have st2 := Sg.make st.out (Firm2.and Firm2.yes (Firm2.rfq _ _ _)) 1 _ rfl (by simp)
          refine hK.out _ _ st2.1 (fun hHeld => ?_)
          (try simp only [Act.put, List.setIfInBounds_toArray, List.set_cons_zero, List.set_cons_succ])
          exact Hs111.out _ _ ⟨m0, h0, W.heap.size, rfl, st2⟩
        exact AllReadyH.nil
      refine wpAnyH_with 4 #[true, true, true, false, false, true, false, false] (fun a W => ∃ (m0 : Rx) (h1 : Nat), a = ⟨#[rx a0, rx b0, .pointer (some ⟨w.heap.size, 0, none⟩), .pointer (some ⟨w.heap.size + 1, 0, none⟩), .bool false, .pointer (some ⟨g0, 0, none⟩), .pointer (some ⟨g1, 0, none⟩), undef, .pointer (some ⟨h1, 0, none⟩), undef, undef, undef, undef, undef, .bool true, .bool false, .agg #[.bool a0.s, sv a0.u, sv a0.t], .agg #[.bool b0.s, sv b0.u, sv b0.t], .bool false, .agg #[.bool a0.s, sv a0.u, sv a0.t], rx x0, .agg #[.bool b0.s, sv b0.u, sv b0.t], rx y0, .agg #[.bool a0.s, sv a0.u, sv a0.t], rx m0, .agg #[.bool b0.s, sv b0.u, sv b0.t], undef, undef, undef, undef, undef, undef, undef, undef, undef, undef, undef, undef, undef, undef, undef, undef, undef, undef, undef, undef, undef, undef, undef, undef, undef, undef, undef, undef, undef, undef, undef, undef, undef, undef, undef, undef, undef, undef, undef, undef, undef, undef, undef, undef, undef, undef, undef, undef, undef, undef, undef, undef, undef, undef, undef, undef, undef, undef, undef, undef, undef, undef, undef, undef, undef, undef, undef, undef, undef, undef, undef, undef], []⟩ ∧ Sg w3.drew.heap.size w3.drew W [fqblk, fqblk] [none, some h1] (fun W => (True ∧ (m0.r = a0.r ∧ Rf W (rx m0) m0.r 60)))) ?_ (fun Hs101 => ?_)
      · rintro a W ⟨m0, h1, rfl, st0⟩
        have hHeld := st0.1
        have st := hide st0
        clear st0
        refine wpAnyH_ready (rs := [3, 4]) (by kernel_rfl) (by simp) ?_
        refine AllReadyH.cons rfl (fun K hK => ?_) ?_
        · go_simp
          go_at_call 20
          refine Calls.mono (rof_f (L := 12) (ZB.out.step st.out.1).ra (by omega) (by omega)) ?_
          rintro e wx ⟨n0, rfl, hk, hr, bx⟩
          have tx := And.intro hk hr
          clear hk hr
          try dsimp only
          have st2 := Sg.call (G := fun W => (n0.r = b0.r ∧ Rf W (rx n0) n0.r 60)) st.out bx (Firm2.and Firm2.yes (Firm2.rfq _ _ _)) tx
          have hSt := hide st2
          refine hK.out _ _ st2.1 (fun hHeld => ?_)
          clear hK K st2
          (try simp only [Act.put, List.setIfInBounds_toArray, List.set_cons_zero, List.set_cons_succ])
          exact Hs201.out _ _ ⟨m0, n0, h1, rfl, hSt.out⟩
        refine AllReadyH.cons rfl (fun K hK => ?_) ?_
        · go_simp
          have st2 := Sg.make st.out (Firm2.and Firm2.yes (Firm2.rfq _ _ _)) 0 _ rfl (by simp)
          refine hK.out _ _ st2.1 (fun hHeld => ?_)
          (try simp only [Act.put, List.setIfInBounds_toArray, List.set_cons_zero, List.set_cons_succ])
          exact Hs111.out _ _ ⟨m0, W.heap.size, h1, rfl, st2⟩
        exact AllReadyH.nil
      refine wpAnyH_with 5 #[true, true, true, false, false, false, false, false] (fun a W => ∃ (m0 : Rx), a = ⟨#[rx a0, rx b0, .pointer (some ⟨w.heap.size, 0, none⟩), .pointer (some ⟨w.heap.size + 1, 0, none⟩), .bool false, .pointer (some ⟨g0, 0, none⟩), .pointer (some ⟨g1, 0, none⟩), undef, undef, undef, undef, undef, undef, undef, .bool true, .bool false, .agg #[.bool a0.s, sv a0.u, sv a0.t], .agg #[.bool b0.s, sv b0.u, sv b0.t], .bool false, .agg #[.bool a0.s, sv a0.u, sv a0.t], rx x0, .agg #[.bool b0.s, sv b0.u, sv b0.t], rx y0, .agg #[.bool a0.s, sv a0.u, sv a0.t], rx m0, .agg #[.bool b0.s, sv b0.u, sv b0.t], undef, undef, undef, undef, undef, undef, undef, undef, undef, undef, undef, undef, undef, undef, undef, undef, undef, undef, undef, undef, undef, undef, undef, undef, undef, undef, undef, undef, undef, undef, undef, undef, undef, undef, undef, undef, undef, undef, undef, undef, undef, undef, undef, undef, undef, undef, undef, undef, undef, undef, undef, undef, undef, undef, undef, undef, undef, undef, undef, undef, undef, undef, undef, undef, undef, undef, undef, undef, undef, undef, undef, undef], []⟩ ∧ Sg w3.drew.heap.size w3.drew W [fqblk, fqblk] [none, none] (fun W => (True ∧ (m0.r = a0.r ∧ Rf W (rx m0) m0.r 60)))) ?_ (fun Hs100 => ?_)
      · rintro a W ⟨m0, rfl, st0⟩
        have hHeld := st0.1
        have st := hide st0
        clear st0
        refine wpAnyH_ready (rs := [3, 4, 5]) (by kernel_rfl) (by simp) ?_
        refine AllReadyH.cons rfl (fun K hK => ?_) ?_
        · go_simp
          go_at_call 20
          refine Calls.mono (rof_f (L := 12) (ZB.out.step st.out.1).ra (by omega) (by omega)) ?_
          rintro e wx ⟨n0, rfl, hk, hr, bx⟩
          have tx := And.intro hk hr
          clear hk hr
          try dsimp only
          have st2 := Sg.call (G := fun W => (n0.r = b0.r ∧ Rf W (rx n0) n0.r 60)) st.out bx (Firm2.and Firm2.yes (Firm2.rfq _ _ _)) tx
          have hSt := hide st2
          refine hK.out _ _ st2.1 (fun hHeld => ?_)
          clear hK K st2
          (try simp only [Act.put, List.setIfInBounds_toArray, List.set_cons_zero, List.set_cons_succ])
          exact Hs200.out _ _ ⟨m0, n0, rfl, hSt.out⟩
        refine AllReadyH.cons rfl (fun K hK => ?_) ?_
        · go_simp
          have st2 := Sg.make st.out (Firm2.and Firm2.yes (Firm2.rfq _ _ _)) 0 _ rfl (by simp)
          refine hK.out _ _ st2.1 (fun hHeld => ?_)
          (try simp only [Act.put, List.setIfInBounds_toArray, List.set_cons_zero, List.set_cons_succ])
          exact Hs110.out _ _ ⟨m0, W.heap.size, rfl, st2⟩
        refine AllReadyH.cons rfl (fun K hK => ?_) ?_
        · go_simp
          have st2 := Sg.make st.out (Firm2.and Firm2.yes (Firm2.rfq _ _ _)) 1 _ rfl (by simp)
          refine hK.out _ _ st2.1 (fun hHeld => ?_)
          (try simp only [Act.put, List.setIfInBounds_toArray, List.set_cons_zero, List.set_cons_succ])
          exact Hs101.out _ _ ⟨m0, W.heap.size, rfl, st2⟩
        exact AllReadyH.nil
      refine wpAnyH_with 4 #[true, false, true, false, true, true, false, false] (fun a W => ∃ (h0 : Nat) (h1 : Nat), a = ⟨#[rx a0, rx b0, .pointer (some ⟨w.heap.size, 0, none⟩), .pointer (some ⟨w.heap.size + 1, 0, none⟩), .bool false, .pointer (some ⟨g0, 0, none⟩), .pointer (some ⟨g1, 0, none⟩), .pointer (some ⟨h0, 0, none⟩), .pointer (some ⟨h1, 0, none⟩), undef, undef, undef, undef, undef, .bool true, .bool false, .agg #[.bool a0.s, sv a0.u, sv a0.t], .agg #[.bool b0.s, sv b0.u, sv b0.t], .bool false, .agg #[.bool a0.s, sv a0.u, sv a0.t], rx x0, .agg #[.bool b0.s, sv b0.u, sv b0.t], rx y0, .agg #[.bool a0.s, sv a0.u, sv a0.t], undef, .agg #[.bool b0.s, sv b0.u, sv b0.t], undef, undef, undef, undef, undef, undef, undef, undef, undef, undef, undef, undef, undef, undef, undef, undef, undef, undef, undef, undef, undef, undef, undef, undef, undef, undef, undef, undef, undef, undef, undef, undef, undef, undef, undef, undef, undef, undef, undef, undef, undef, undef, undef, undef, undef, undef, undef, undef, undef, undef, undef, undef, undef, undef, undef, undef, undef, undef, undef, undef, undef, undef, undef, undef, undef, undef, undef, undef, undef, undef, undef, undef], []⟩ ∧ Sg w3.drew.heap.size w3.drew W [fqblk, fqblk] [some h0, some h1] (fun W => True)) ?_ (fun Hs011 => ?_)
      · rintro a W ⟨h0, h1, rfl, st0⟩
        have hHeld := st0.1
        have st := hide st0
        clear st0
        refine wpAnyH_ready (rs := [1]) (by kernel_rfl) (by simp) ?_
        refine AllReadyH.cons rfl (fun K hK => ?_) ?_
        · go_simp
          go_at_call 20
          refine Calls.mono (rof_f (L := 12) (ZA.out.step st.out.1).ra (by omega) (by omega)) ?_
          rintro e wx ⟨m0, rfl, hk, hr, bx⟩
          have tx := And.intro hk hr
          clear hk hr
          try dsimp only
          have st2 := Sg.call (G := fun W => (m0.r = a0.r ∧ Rf W (rx m0) m0.r 60)) st.out bx Firm2.yes tx
          have hSt := hide st2
          refine hK.out _ _ st2.1 (fun hHeld => ?_)
          clear hK K st2
          (try simp only [Act.put, List.setIfInBounds_toArray, List.set_cons_zero, List.set_cons_succ])
          exact Hs111.out _ _ ⟨m0, h0, h1, rfl, hSt.out⟩
        exact AllReadyH.nil
      refine wpAnyH_with 5 #[true, false, true, false, true, false, false, false] (fun a W => ∃ (h0 : Nat), a = ⟨#[rx a0, rx b0, .pointer (some ⟨w.heap.size, 0, none⟩), .pointer (some ⟨w.heap.size + 1, 0, none⟩), .bool false, .pointer (some ⟨g0, 0, none⟩), .pointer (some ⟨g1, 0, none⟩), .pointer (some ⟨h0, 0, none⟩), undef, undef, undef, undef, undef, undef, .bool true, .bool false, .agg #[.bool a0.s, sv a0.u, sv a0.t], .agg #[.bool b0.s, sv b0.u, sv b0.t], .bool false, .agg #[.bool a0.s, sv a0.u, sv a0.t], rx x0, .agg #[.bool b0.s, sv b0.u, sv b0.t], rx y0, .agg #[.bool a0.s, sv a0.u, sv a0.t], undef, .agg #[.bool b0.s, sv b0.u, sv b0.t], undef, undef, undef, undef, undef, undef, undef, undef, undef, undef, undef, undef, undef, undef, undef, undef, undef, undef, undef, undef, undef, undef, undef, undef, undef, undef, undef, undef, undef, undef, undef, undef, undef, undef, undef, undef, undef, undef, undef, undef, undef, undef, undef, undef, undef, undef, undef, undef, undef, undef, undef, undef, undef, undef, undef, undef, undef, undef, undef, undef, undef, undef, undef, undef, undef, undef, undef, undef, undef, undef, undef, undef], []⟩ ∧ Sg w3.drew.heap.size w3.drew W [fqblk, fqblk] [some h0, none] (fun W => True)) ?_ (fun Hs010 => ?_)
      · rintro a W ⟨h0, rfl, st0⟩
        have hHeld := st0.1
        have st := hide st0
        clear st0
        refine wpAnyH_ready (rs := [1, 5]) (by kernel_rfl) (by simp) ?_
        refine AllReadyH.cons rfl (fun K hK => ?_) ?_
        · go_simp
          go_at_call 20
          refine Calls.mono (rof_f (L := 12) (ZA.out.step st.out.1).ra (by omega) (by omega)) ?_
          rintro e wx ⟨m0, rfl, hk, hr, bx⟩
          have tx := And.intro hk hr
          clear hk hr
          try dsimp only
          have st2 := Sg.call (G := fun W => (m0.r = a0.r ∧ Rf W (rx m0) m0.r 60)) st.out bx Firm2.yes tx
          have hSt := hide st2
          refine hK.out _ _ st2.1 (fun hHeld => ?_)
          clear hK K st2
          (try simp only [Act.put, List.setIfInBounds_toArray, List.set_cons_zero, List.set_cons_succ])
          exact Hs110.out _ _ ⟨m0, h0, rfl, hSt.out⟩
        refine AllReadyH.cons rfl (fun K hK => ?_) ?_
        · go_simp
          have st2 := Sg.make st.out Firm2.yes 1 _ rfl (by simp)
          refine hK.out _ _ st2.1 (fun hHeld => ?_)
          (try simp only [Act.put, List.setIfInBounds_toArray, List.set_cons_zero, List.set_cons_succ])
          exact Hs011.out _ _ ⟨h0, W.heap.size, rfl, st2⟩
        exact AllReadyH.nil
      refine wpAnyH_with 5 #[true, false, true, false, false, true, false, false] (fun a W => ∃ (h1 : Nat), a = ⟨#[rx a0, rx b0, .pointer (some ⟨w.heap.size, 0, none⟩), .pointer (some ⟨w.heap.size + 1, 0, none⟩), .bool false, .pointer (some ⟨g0, 0, none⟩), .pointer (some ⟨g1, 0, none⟩), undef, .pointer (some ⟨h1, 0, none⟩), undef, undef, undef, undef, undef, .bool true, .bool false, .agg #[.bool a0.s, sv a0.u, sv a0.t], .agg #[.bool b0.s, sv b0.u, sv b0.t], .bool false, .agg #[.bool a0.s, sv a0.u, sv a0.t], rx x0, .agg #[.bool b0.s, sv b0.u, sv b0.t], rx y0, .agg #[.bool a0.s, sv a0.u, sv a0.t], undef, .agg #[.bool b0.s, sv b0.u, sv b0.t], undef, undef, undef, undef, undef, undef, undef, undef, undef, undef, undef, undef, undef, undef, undef, undef, undef, undef, undef, undef, undef, undef, undef, undef, undef, undef, undef, undef, undef, undef, undef, undef, undef, undef, undef, undef, undef, undef, undef, undef, undef, undef, undef, undef, undef, undef, undef, undef, undef, undef, undef, undef, undef, undef, undef, undef, undef, undef, undef, undef, undef, undef, undef, undef, undef, undef, undef, undef, undef, undef, undef, undef], []⟩ ∧ Sg w3.drew.heap.size w3.drew W [fqblk, fqblk] [none, some h1] (fun W => True)) ?_ (fun Hs001 => ?_)
      · rintro a W ⟨h1, rfl, st0⟩
        have hHeld := st0.1
        have st := hide st0
        clear st0
        refine wpAnyH_ready (rs := [1, 4]) (by kernel_rfl) (by simp) ?_
        refine AllReadyH.cons rfl (fun K hK => ?_) ?_
        · go_simp
          go_at_call 20
          refine Calls.mono (rof_f (L := 12) (ZA.out.step st.out.1).ra (by omega) (by omega)) ?_
          rintro e wx ⟨m0, rfl, hk, hr, bx⟩
          have tx := And.intro hk hr
          clear hk hr
          try dsimp only
          have st2 := Sg.call (G := fun W => (m0.r = a0.r ∧ Rf W (rx m0) m0.r 60)) st.out bx Firm2.yes tx
          have hSt := hide st2
          refine hK.out _ _ st2.1 (fun hHeld => ?_)
          clear hK K st2
          (try simp only [Act.put, List.setIfInBounds_toArray, List.set_cons_zero, List.set_cons_succ])
          exact Hs101.out _ _ ⟨m0, h1, rfl, hSt.out⟩
        refine AllReadyH.cons rfl (fun K hK => ?_) ?_
        · go_simp
          have st2 := Sg.make st.out Firm2.yes 0 _ rfl (by simp)
          refine hK.out _ _ st2.1 (fun hHeld => ?_)
          (try simp only [Act.put, List.setIfInBounds_toArray, List.set_cons_zero, List.set_cons_succ])
          exact Hs011.out _ _ ⟨W.heap.size, h1, rfl, st2⟩
        exact AllReadyH.nil
      refine wpAnyH_take (i := 0) (v := ?_) rfl (by kernel_rfl) (by kernel_rfl) (by kernel_rfl) (fun _ _ _ h => h) (Or.inl ⟨?_, ?_⟩) (by assumption) ?_
      rotate_left
      · rfl
      · (intro w hSw; have e0 := cell_keep p0 hSw; have e1 := cell_keep p1 hSw; have e2 := cell_keep p2 hSw; go_simp; try with_reducible rfl)
      (try simp only [Act.put, List.setIfInBounds_toArray, List.set_cons_zero, List.set_cons_succ])
      refine wpAnyH_take (i := 2) (v := ?_) rfl (by kernel_rfl) (by kernel_rfl) (by kernel_rfl) (fun _ _ _ h => h) (Or.inl ⟨?_, ?_⟩) (by assumption) ?_
      rotate_left
      · rfl
      · (intro w hSw; have e0 := cell_keep q0 hSw; have e1 := cell_keep q1 hSw; have e2 := cell_keep q2 hSw; go_simp; try with_reducible rfl)
      (try simp only [Act.put, List.setIfInBounds_toArray, List.set_cons_zero, List.set_cons_succ])
      refine wpAnyH_with 6 #[true, false, true, false, false, false, false, false] (fun a W => a = ⟨#[rx a0, rx b0, .pointer (some ⟨w.heap.size, 0, none⟩), .pointer (some ⟨w.heap.size + 1, 0, none⟩), .bool false, .pointer (some ⟨g0, 0, none⟩), .pointer (some ⟨g1, 0, none⟩), undef, undef, undef, undef, undef, undef, undef, .bool true, .bool false, .agg #[.bool a0.s, sv a0.u, sv a0.t], .agg #[.bool b0.s, sv b0.u, sv b0.t], .bool false, .agg #[.bool a0.s, sv a0.u, sv a0.t], rx x0, .agg #[.bool b0.s, sv b0.u, sv b0.t], rx y0, .agg #[.bool a0.s, sv a0.u, sv a0.t], undef, .agg #[.bool b0.s, sv b0.u, sv b0.t], undef, undef, undef, undef, undef, undef, undef, undef, undef, undef, undef, undef, undef, undef, undef, undef, undef, undef, undef, undef, undef, undef, undef, undef, undef, undef, undef, undef, undef, undef, undef, undef, undef, undef, undef, undef, undef, undef, undef, undef, undef, undef, undef, undef, undef, undef, undef, undef, undef, undef, undef, undef, undef, undef, undef, undef, undef, undef, undef, undef, undef, undef, undef, undef, undef, undef, undef, undef, undef, undef, undef, undef], []⟩ ∧ Sg w3.drew.heap.size w3.drew W [fqblk, fqblk] [none, none] (fun W => True)) ?_ (fun Hs => Hs.out _ _ ⟨rfl, Sg.start _ _ 2⟩)
      rintro a W ⟨rfl, st0⟩
      have hHeld := st0.1
      have st := hide st0
      clear st0
      refine wpAnyH_ready (rs := [1, 4, 5]) (by kernel_rfl) (by simp) ?_
      refine AllReadyH.cons rfl (fun K hK => ?_) ?_
      · go_simp
        go_at_call 20
        refine Calls.mono (rof_f (L := 12) (ZA.out.step st.out.1).ra (by omega) (by omega)) ?_
        rintro e wx ⟨m0, rfl, hk, hr, bx⟩
        have tx := And.intro hk hr
        clear hk hr
        try dsimp only
        have st2 := Sg.call (G := fun W => (m0.r = a0.r ∧ Rf W (rx m0) m0.r 60)) st.out bx Firm2.yes tx
        have hSt := hide st2
        refine hK.out _ _ st2.1 (fun hHeld => ?_)
        clear hK K st2
        (try simp only [Act.put, List.setIfInBounds_toArray, List.set_cons_zero, List.set_cons_succ])
        exact Hs100.out _ _ ⟨m0, rfl, hSt.out⟩
      refine AllReadyH.cons rfl (fun K hK => ?_) ?_
      · go_simp
        have st2 := Sg.make st.out Firm2.yes 0 _ rfl (by simp)
        refine hK.out _ _ st2.1 (fun hHeld => ?_)
        (try simp only [Act.put, List.setIfInBounds_toArray, List.set_cons_zero, List.set_cons_succ])
        exact Hs010.out _ _ ⟨W.heap.size, rfl, st2⟩
      refine AllReadyH.cons rfl (fun K hK => ?_) ?_
      · go_simp
        have st2 := Sg.make st.out Firm2.yes 1 _ rfl (by simp)
        refine hK.out _ _ st2.1 (fun hHeld => ?_)
        (try simp only [Act.put, List.setIfInBounds_toArray, List.set_cons_zero, List.set_cons_succ])
        exact Hs001.out _ _ ⟨W.heap.size, rfl, st2⟩
      exact AllReadyH.nil
    refine wpAnyH_with 3 #[true, true, true, true, true, false, false, false] (fun a W => ∃ (x0 : Rx) (y0 : Rx) (g0 : Nat), a = ⟨#[rx a0, rx b0, .pointer (some ⟨w.heap.size, 0, none⟩), .pointer (some ⟨w.heap.size + 1, 0, none⟩), .bool false, .pointer (some ⟨g0, 0, none⟩), undef, undef, undef, undef, undef, undef, undef, undef, .bool true, .bool false, .agg #[.bool a0.s, sv a0.u, sv a0.t], .agg #[.bool b0.s, sv b0.u, sv b0.t], .bool false, .agg #[.bool a0.s, sv a0.u, sv a0.t], rx x0, .agg #[.bool b0.s, sv b0.u, sv b0.t], rx y0, undef, undef, undef, undef, undef, undef, undef, undef, undef, undef, undef, undef, undef, undef, undef, undef, undef, undef, undef, undef, undef, undef, undef, undef, undef, undef, undef, undef, undef, undef, undef, undef, undef, undef, undef, undef, undef, undef, undef, undef, undef, undef, undef, undef, undef, undef, undef, undef, undef, undef, undef, undef, undef, undef, undef, undef, undef, undef, undef, undef, undef, undef, undef, undef, undef, undef, undef, undef, undef, undef, undef, undef, undef, undef, undef], []⟩ ∧ Sg w2.drew.heap.size w2.drew W [rblk, rblk] [some g0, none] (fun W => ((True ∧ Zf W x0 za 12) ∧ Zf W y0 zb 12))) ?_ (fun Hs210 => ?_)
    · rintro a W ⟨x0, y0, g0, rfl, st0⟩
      have hHeld := st0.1
      have st := hide st0
      clear st0
      refine wpAnyH_ready (rs := [5]) (by kernel_rfl) (by simp) ?_
      refine AllReadyH.cons rfl (fun K hK => ?_) ?_
      · go_simp
        have st2 := Sg.make st.out (Firm2.and (Firm2.and Firm2.yes (Firm2.zf _ _ _)) (Firm2.zf _ _ _)) 1 _ rfl (by simp)
        refine hK.out _ _ st2.1 (fun hHeld => ?_)
        (try simp only [Act.put, List.setIfInBounds_toArray, List.set_cons_zero, List.set_cons_succ])
        exact Hs211.out _ _ ⟨x0, y0, g0, W.heap.size, rfl, st2⟩
      exact AllReadyH.nil
    refine wpAnyH_with 3 #[true, true, true, true, false, true, false, false] (fun a W => ∃ (x0 : Rx) (y0 : Rx) (g1 : Nat), a = ⟨#[rx a0, rx b0, .pointer (some ⟨w.heap.size, 0, none⟩), .pointer (some ⟨w.heap.size + 1, 0, none⟩), .bool false, undef, .pointer (some ⟨g1, 0, none⟩), undef, undef, undef, undef, undef, undef, undef, .bool true, .bool false, .agg #[.bool a0.s, sv a0.u, sv a0.t], .agg #[.bool b0.s, sv b0.u, sv b0.t], .bool false, .agg #[.bool a0.s, sv a0.u, sv a0.t], rx x0, .agg #[.bool b0.s, sv b0.u, sv b0.t], rx y0, undef, undef, undef, undef, undef, undef, undef, undef, undef, undef, undef, undef, undef, undef, undef, undef, undef, undef, undef, undef, undef, undef, undef, undef, undef, undef, undef, undef, undef, undef, undef, undef, undef, undef, undef, undef, undef, undef, undef, undef, undef, undef, undef, undef, undef, undef, undef, undef, undef, undef, undef, undef, undef, undef, undef, undef, undef, undef, undef, undef, undef, undef, undef, undef, undef, undef, undef, undef, undef, undef, undef, undef, undef, undef, undef], []⟩ ∧ Sg w2.drew.heap.size w2.drew W [rblk, rblk] [none, some g1] (fun W => ((True ∧ Zf W x0 za 12) ∧ Zf W y0 zb 12))) ?_ (fun Hs201 => ?_)
    · rintro a W ⟨x0, y0, g1, rfl, st0⟩
      have hHeld := st0.1
      have st := hide st0
      clear st0
      refine wpAnyH_ready (rs := [4]) (by kernel_rfl) (by simp) ?_
      refine AllReadyH.cons rfl (fun K hK => ?_) ?_
      · go_simp
        have st2 := Sg.make st.out (Firm2.and (Firm2.and Firm2.yes (Firm2.zf _ _ _)) (Firm2.zf _ _ _)) 0 _ rfl (by simp)
        refine hK.out _ _ st2.1 (fun hHeld => ?_)
        (try simp only [Act.put, List.setIfInBounds_toArray, List.set_cons_zero, List.set_cons_succ])
        exact Hs211.out _ _ ⟨x0, y0, W.heap.size, g1, rfl, st2⟩
      exact AllReadyH.nil
    refine wpAnyH_with 4 #[true, true, true, true, false, false, false, false] (fun a W => ∃ (x0 : Rx) (y0 : Rx), a = ⟨#[rx a0, rx b0, .pointer (some ⟨w.heap.size, 0, none⟩), .pointer (some ⟨w.heap.size + 1, 0, none⟩), .bool false, undef, undef, undef, undef, undef, undef, undef, undef, undef, .bool true, .bool false, .agg #[.bool a0.s, sv a0.u, sv a0.t], .agg #[.bool b0.s, sv b0.u, sv b0.t], .bool false, .agg #[.bool a0.s, sv a0.u, sv a0.t], rx x0, .agg #[.bool b0.s, sv b0.u, sv b0.t], rx y0, undef, undef, undef, undef, undef, undef, undef, undef, undef, undef, undef, undef, undef, undef, undef, undef, undef, undef, undef, undef, undef, undef, undef, undef, undef, undef, undef, undef, undef, undef, undef, undef, undef, undef, undef, undef, undef, undef, undef, undef, undef, undef, undef, undef, undef, undef, undef, undef, undef, undef, undef, undef, undef, undef, undef, undef, undef, undef, undef, undef, undef, undef, undef, undef, undef, undef, undef, undef, undef, undef, undef, undef, undef, undef, undef], []⟩ ∧ Sg w2.drew.heap.size w2.drew W [rblk, rblk] [none, none] (fun W => ((True ∧ Zf W x0 za 12) ∧ Zf W y0 zb 12))) ?_ (fun Hs200 => ?_)
    · rintro a W ⟨x0, y0, rfl, st0⟩
      have hHeld := st0.1
      have st := hide st0
      clear st0
      refine wpAnyH_ready (rs := [4, 5]) (by kernel_rfl) (by simp) ?_
      refine AllReadyH.cons rfl (fun K hK => ?_) ?_
      · go_simp
        have st2 := Sg.make st.out (Firm2.and (Firm2.and Firm2.yes (Firm2.zf _ _ _)) (Firm2.zf _ _ _)) 0 _ rfl (by simp)
        refine hK.out _ _ st2.1 (fun hHeld => ?_)
        (try simp only [Act.put, List.setIfInBounds_toArray, List.set_cons_zero, List.set_cons_succ])
        exact Hs210.out _ _ ⟨x0, y0, W.heap.size, rfl, st2⟩
      refine AllReadyH.cons rfl (fun K hK => ?_) ?_
      · go_simp
        have st2 := Sg.make st.out (Firm2.and (Firm2.and Firm2.yes (Firm2.zf _ _ _)) (Firm2.zf _ _ _)) 1 _ rfl (by simp)
        refine hK.out _ _ st2.1 (fun hHeld => ?_)
        (try simp only [Act.put, List.setIfInBounds_toArray, List.set_cons_zero, List.set_cons_succ])
        exact Hs201.out _ _ ⟨x0, y0, W.heap.size, rfl, st2⟩
      exact AllReadyH.nil
    refine wpAnyH_with 3 #[true, true, true, false, true, true, false, false] (fun a W => ∃ (x0 : Rx) (g0 : Nat) (g1 : Nat), a = ⟨#[rx a0, rx b0, .pointer (some ⟨w.heap.size, 0, none⟩), .pointer (some ⟨w.heap.size + 1, 0, none⟩), .bool false, .pointer (some ⟨g0, 0, none⟩), .pointer (some ⟨g1, 0, none⟩), undef, undef, undef, undef, undef, undef, undef, .bool true, .bool false, .agg #[.bool a0.s, sv a0.u, sv a0.t], .agg #[.bool b0.s, sv b0.u, sv b0.t], .bool false, .agg #[.bool a0.s, sv a0.u, sv a0.t], rx x0, .agg #[.bool b0.s, sv b0.u, sv b0.t], undef, undef, undef, undef, undef, undef, undef, undef, undef, undef, undef, undef, undef, undef, undef, undef, undef, undef, undef, undef, undef, undef, undef, undef, undef, undef, undef, undef, undef, undef, undef, undef, undef, undef, undef, undef, undef, undef, undef, undef, undef, undef, undef, undef, undef, undef, undef, undef, undef, undef, undef, undef, undef, undef, undef, undef, undef, undef, undef, undef, undef, undef, undef, undef, undef, undef, undef, undef, undef, undef, undef, undef, undef, undef, undef, undef], []⟩ ∧ Sg w2.drew.heap.size w2.drew W [rblk, rblk] [some g0, some g1] (fun W => (True ∧ Zf W x0 za 12))) ?_ (fun Hs111 => ?_)
    · rintro a W ⟨x0, g0, g1, rfl, st0⟩
      have hHeld := st0.1
      have st := hide st0
      clear st0
      refine wpAnyH_ready (rs := [3]) (by kernel_rfl) (by simp) ?_
      refine AllReadyH.cons rfl (fun K hK => ?_) ?_
      · go_simp
        go_at_call 19
        refine Calls.mono (rcopy_w (ZB.out.step st.out.1) (by omega)) ?_
        rintro e wx ⟨y0, rfl, hk, bx⟩
        have tx := hk.1
        clear hk
        try dsimp only
        have st2 := Sg.call (G := fun W => Zf W y0 zb 12) st.out bx (Firm2.and Firm2.yes (Firm2.zf _ _ _)) tx
        have hSt := hide st2
        refine hK.out _ _ st2.1 (fun hHeld => ?_)
        clear hK K st2
        (try simp only [Act.put, List.setIfInBounds_toArray, List.set_cons_zero, List.set_cons_succ])
        exact Hs211.out _ _ ⟨x0, y0, g0, g1, rfl, hSt.out⟩
      exact AllReadyH.nil
    refine wpAnyH_with 4 #[true, true, true, false, true, false, false, false] (fun a W => ∃ (x0 : Rx) (g0 : Nat), a = ⟨#[rx a0, rx b0, .pointer (some ⟨w.heap.size, 0, none⟩), .pointer (some ⟨w.heap.size + 1, 0, none⟩), .bool false, .pointer (some ⟨g0, 0, none⟩), undef, undef, undef, undef, undef, undef, undef, undef, .bool true, .bool false, .agg #[.bool a0.s, sv a0.u, sv a0.t], .agg #[.bool b0.s, sv b0.u, sv b0.t], .bool false, .agg #[.bool a0.s, sv a0.u, sv a0.t], rx x0, .agg #[.bool b0.s, sv b0.u, sv b0.t], undef, undef, undef, undef, undef, undef, undef, undef, undef, undef, undef, undef, undef, undef, undef, undef, undef, undef, undef, undef, undef, undef, undef, undef, undef, undef, undef, undef, undef, undef, undef, undef, undef, undef, undef, undef, undef, undef, undef, undef, undef, undef, undef, undef, undef, undef, undef, undef, undef, undef, undef, undef, undef, undef, undef, undef, undef, undef, undef, undef, undef, undef, undef, undef, undef, undef, undef, undef, undef, undef, undef, undef, undef, undef, undef, undef], []⟩ ∧ Sg w2.drew.heap.size w2.drew W [rblk, rblk] [some g0, none] (fun W => (True ∧ Zf W x0 za 12))) ?_ (fun Hs110 => ?_)
    · rintro a W ⟨x0, g0, rfl, st0⟩
      have hHeld := st0.1
      have st := hide st0
      clear st0
      refine wpAnyH_ready (rs := [3, 5]) (by kernel_rfl) (by simp) ?_
      refine AllReadyH.cons rfl (fun K hK => ?_) ?_
      · go_simp
        go_at_call 19
        refine Calls.mono (rcopy_w (ZB.out.step st.out.1) (by omega)) ?_
        rintro e wx ⟨y0, rfl, hk, bx⟩
        have tx := hk.1
        clear hk
        try dsimp only
        have st2 := Sg.call (G := fun W => Zf W y0 zb 12) st.out bx (Firm2.and Firm2.yes (Firm2.zf _ _ _)) tx
        have hSt := hide st2
        refine hK.out _ _ st2.1 (fun hHeld => ?_)
        clear hK K st2
        (try simp only [Act.put, List.setIfInBounds_toArray, List.set_cons_zero, List.set_cons_succ])
        exact Hs210.out _ _ ⟨x0, y0, g0, rfl, hSt.out⟩
      refine AllReadyH.cons rfl (fun K hK => ?_) ?_
      · go_simp
        have st2 := Sg.make st.out (Firm2.and Firm2.yes (Firm2.zf _ _ _)) 1 _ rfl (by simp)
        refine hK.out _ _ st2.1 (fun hHeld => ?_)
        (try simp only [Act.put, List.setIfInBounds_toArray, List.set_cons_zero, List.set_cons_succ])
        exact Hs111.out _ _ ⟨x0, g0, W.heap.size, rfl, st2⟩
      exact AllReadyH.nil
    refine wpAnyH_with 4 #[true, true, true, false, false, true, false, false] (fun a W => ∃ (x0 : Rx) (g1 : Nat), a = ⟨#[rx a0, rx b0, .pointer (some ⟨w.heap.size, 0, none⟩), .pointer (some ⟨w.heap.size + 1, 0, none⟩), .bool false, undef, .pointer (some ⟨g1, 0, none⟩), undef, undef, undef, undef, undef, undef, undef, .bool true, .bool false, .agg #[.bool a0.s, sv a0.u, sv a0.t], .agg #[.bool b0.s, sv b0.u, sv b0.t], .bool false, .agg #[.bool a0.s, sv a0.u, sv a0.t], rx x0, .agg #[.bool b0.s, sv b0.u, sv b0.t], undef, undef, undef, undef, undef, undef, undef, undef, undef, undef, undef, undef, undef, undef, undef, undef, undef, undef, undef, undef, undef, undef, undef, undef, undef, undef, undef, undef, undef, undef, undef, undef, undef, undef, undef, undef, undef, undef, undef, undef, undef, undef, undef, undef, undef, undef, undef, undef, undef, undef, undef, undef, undef, undef, undef, undef, undef, undef, undef, undef, undef, undef, undef, undef, undef, undef, undef, undef, undef, undef, undef, undef, undef, undef, undef, undef], []⟩ ∧ Sg w2.drew.heap.size w2.drew W [rblk, rblk] [none, some g1] (fun W => (True ∧ Zf W x0 za 12))) ?_ (fun Hs101 => ?_)
    · rintro a W ⟨x0, g1, rfl, st0⟩
      have hHeld := st0.1
      have st := hide st0
      clear st0
      refine wpAnyH_ready (rs := [3, 4]) (by kernel_rfl) (by simp) ?_
      refine AllReadyH.cons rfl (fun K hK => ?_) ?_
      · go_simp
        go_at_call 19
        refine Calls.mono (rcopy_w (ZB.out.step st.out.1) (by omega)) ?_
        rintro e wx ⟨y0, rfl, hk, bx⟩
        have tx := hk.1
        clear hk
        try dsimp only
        have st2 := Sg.call (G := fun W => Zf W y0 zb 12) st.out bx (Firm2.and Firm2.yes (Firm2.zf _ _ _)) tx
        have hSt := hide st2
        refine hK.out _ _ st2.1 (fun hHeld => ?_)
        clear hK K st2
        (try simp only [Act.put, List.setIfInBounds_toArray, List.set_cons_zero, List.set_cons_succ])
        exact Hs201.out _ _ ⟨x0, y0, g1, rfl, hSt.out⟩
      refine AllReadyH.cons rfl (fun K hK => ?_) ?_
      · go_simp
        have st2 := Sg.make st.out (Firm2.and Firm2.yes (Firm2.zf _ _ _)) 0 _ rfl (by simp)
        refine hK.out _ _ st2.1 (fun hHeld => ?_)
        (try simp only [Act.put, List.setIfInBounds_toArray, List.set_cons_zero, List.set_cons_succ])
        exact Hs111.out _ _ ⟨x0, W.heap.size, g1, rfl, st2⟩
      exact AllReadyH.nil
    refine wpAnyH_with 5 #[true, true, true, false, false, false, false, false] (fun a W => ∃ (x0 : Rx), a = ⟨#[rx a0, rx b0, .pointer (some ⟨w.heap.size, 0, none⟩), .pointer (some ⟨w.heap.size + 1, 0, none⟩), .bool false, undef, undef, undef, undef, undef, undef, undef, undef, undef, .bool true, .bool false, .agg #[.bool a0.s, sv a0.u, sv a0.t], .agg #[.bool b0.s, sv b0.u, sv b0.t], .bool false, .agg #[.bool a0.s, sv a0.u, sv a0.t], rx x0, .agg #[.bool b0.s, sv b0.u, sv b0.t], undef, undef, undef, undef, undef, undef, undef, undef, undef, undef, undef, undef, undef, undef, undef, undef, undef, undef, undef, undef, undef, undef, undef, undef, undef, undef, undef, undef, undef, undef, undef, undef, undef, undef, undef, undef, undef, undef, undef, undef, undef, undef, undef, undef, undef, undef, undef, undef, undef, undef, undef, undef, undef, undef, undef, undef, undef, undef, undef, undef, undef, undef, undef, undef, undef, undef, undef, undef, undef, undef, undef, undef, undef, undef, undef, undef], []⟩ ∧ Sg w2.drew.heap.size w2.drew W [rblk, rblk] [none, none] (fun W => (True ∧ Zf W x0 za 12))) ?_ (fun Hs100 => ?_)
    · rintro a W ⟨x0, rfl, st0⟩
      have hHeld := st0.1
      have st := hide st0
      clear st0
      refine wpAnyH_ready (rs := [3, 4, 5]) (by kernel_rfl) (by simp) ?_
      refine AllReadyH.cons rfl (fun K hK => ?_) ?_
      · go_simp
        go_at_call 19
        refine Calls.mono (rcopy_w (ZB.out.step st.out.1) (by omega)) ?_
        rintro e wx ⟨y0, rfl, hk, bx⟩
        have tx := hk.1
        clear hk
        try dsimp only
        have st2 := Sg.call (G := fun W => Zf W y0 zb 12) st.out bx (Firm2.and Firm2.yes (Firm2.zf _ _ _)) tx
        have hSt := hide st2
        refine hK.out _ _ st2.1 (fun hHeld => ?_)
        clear hK K st2
        (try simp only [Act.put, List.setIfInBounds_toArray, List.set_cons_zero, List.set_cons_succ])
        exact Hs200.out _ _ ⟨x0, y0, rfl, hSt.out⟩
      refine AllReadyH.cons rfl (fun K hK => ?_) ?_
      · go_simp
        have st2 := Sg.make st.out (Firm2.and Firm2.yes (Firm2.zf _ _ _)) 0 _ rfl (by simp)
        refine hK.out _ _ st2.1 (fun hHeld => ?_)
        (try simp only [Act.put, List.setIfInBounds_toArray, List.set_cons_zero, List.set_cons_succ])
        exact Hs110.out _ _ ⟨x0, W.heap.size, rfl, st2⟩
      refine AllReadyH.cons rfl (fun K hK => ?_) ?_
      · go_simp
        have st2 := Sg.make st.out (Firm2.and Firm2.yes (Firm2.zf _ _ _)) 1 _ rfl (by simp)
        refine hK.out _ _ st2.1 (fun hHeld => ?_)
        (try simp only [Act.put, List.setIfInBounds_toArray, List.set_cons_zero, List.set_cons_succ])
        exact Hs101.out _ _ ⟨x0, W.heap.size, rfl, st2⟩
      exact AllReadyH.nil
    refine wpAnyH_with 4 #[true, false, true, false, true, true, false, false] (fun a W => ∃ (g0 : Nat) (g1 : Nat), a = ⟨#[rx a0, rx b0, .pointer (some ⟨w.heap.size, 0, none⟩), .pointer (some ⟨w.heap.size + 1, 0, none⟩), .bool false, .pointer (some ⟨g0, 0, none⟩), .pointer (some ⟨g1, 0, none⟩), undef, undef, undef, undef, undef, undef, undef, .bool true, .bool false, .agg #[.bool a0.s, sv a0.u, sv a0.t], .agg #[.bool b0.s, sv b0.u, sv b0.t], .bool false, .agg #[.bool a0.s, sv a0.u, sv a0.t], undef, .agg #[.bool b0.s, sv b0.u, sv b0.t], undef, undef, undef, undef, undef, undef, undef, undef, undef, undef, undef, undef, undef, undef, undef, undef, undef, undef, undef, undef, undef, undef, undef, undef, undef, undef, undef, undef, undef, undef, undef, undef, undef, undef, undef, undef, undef, undef, undef, undef, undef, undef, undef, undef, undef, undef, undef, undef, undef, undef, undef, undef, undef, undef, undef, undef, undef, undef, undef, undef, undef, undef, undef, undef, undef, undef, undef, undef, undef, undef, undef, undef, undef, undef, undef, undef], []⟩ ∧ Sg w2.drew.heap.size w2.drew W [rblk, rblk] [some g0, some g1] (fun W => True)) ?_ (fun Hs011 => ?_)
    · rintro a W ⟨g0, g1, rfl, st0⟩
      have hHeld := st0.1
      have st := hide st0
      clear st0
      refine wpAnyH_ready (rs := [1]) (by kernel_rfl) (by simp) ?_
      refine AllReadyH.cons rfl (fun K hK => ?_) ?_
      · go_simp
        go_at_call 19
        refine Calls.mono (rcopy_w (ZA.out.step st.out.1) (by omega)) ?_
        rintro e wx ⟨x0, rfl, hk, bx⟩
        have tx := hk.1
        clear hk
        try dsimp only
        have st2 := Sg.call (G := fun W => Zf W x0 za 12) st.out bx Firm2.yes tx
        have hSt := hide st2
        refine hK.out _ _ st2.1 (fun hHeld => ?_)
        clear hK K st2
        (try simp only [Act.put, List.setIfInBounds_toArray, List.set_cons_zero, List.set_cons_succ])
        exact Hs111.out _ _ ⟨x0, g0, g1, rfl, hSt.out⟩
      exact AllReadyH.nil
    refine wpAnyH_with 5 #[true, false, true, false, true, false, false, false] (fun a W => ∃ (g0 : Nat), a = ⟨#[rx a0, rx b0, .pointer (some ⟨w.heap.size, 0, none⟩), .pointer (some ⟨w.heap.size + 1, 0, none⟩), .bool false, .pointer (some ⟨g0, 0, none⟩), undef, undef, undef, undef, undef, undef, undef, undef, .bool true, .bool false, .agg #[.bool a0.s, sv a0.u, sv a0.t], .agg #[.bool b0.s, sv b0.u, sv b0.t], .bool false, .agg #[.bool a0.s, sv a0.u, sv a0.t], undef, .agg #[.bool b0.s, sv b0.u, sv b0.t], undef, undef, undef, undef, undef, undef, undef, undef, undef, undef, undef, undef, undef, undef, undef, undef, undef, undef, undef, undef, undef, undef, undef, undef, undef, undef, undef, undef, undef, undef, undef, undef, undef, undef, undef, undef, undef, undef, undef, undef, undef, undef, undef, undef, undef, undef, undef, undef, undef, undef, undef, undef, undef, undef, undef, undef, undef, undef, undef, undef, undef, undef, undef, undef, undef, undef, undef, undef, undef, undef, undef, undef, undef, undef, undef, undef], []⟩ ∧ Sg w2.drew.heap.size w2.drew W [rblk, rblk] [some g0, none] (fun W => True)) ?_ (fun Hs010 => ?_)
    · rintro a W ⟨g0, rfl, st0⟩
      have hHeld := st0.1
      have st := hide st0
      clear st0
      refine wpAnyH_ready (rs := [1, 5]) (by kernel_rfl) (by simp) ?_
      refine AllReadyH.cons rfl (fun K hK => ?_) ?_
      · go_simp
        go_at_call 19
        refine Calls.mono (rcopy_w (ZA.out.step st.out.1) (by omega)) ?_
        rintro e wx ⟨x0, rfl, hk, bx⟩
        have tx := hk.1
        clear hk
        try dsimp only
        have st2 := Sg.call (G := fun W => Zf W x0 za 12) st.out bx Firm2.yes tx
        have hSt := hide st2
        refine hK.out _ _ st2.1 (fun hHeld => ?_)
        clear hK K st2
        (try simp only [Act.put, List.setIfInBounds_toArray, List.set_cons_zero, List.set_cons_succ])
        exact Hs110.out _ _ ⟨x0, g0, rfl, hSt.out⟩
      refine AllReadyH.cons rfl (fun K hK => ?_) ?_
      · go_simp
        have st2 := Sg.make st.out Firm2.yes 1 _ rfl (by simp)
        refine hK.out _ _ st2.1 (fun hHeld => ?_)
        (try simp only [Act.put, List.setIfInBounds_toArray, List.set_cons_zero, List.set_cons_succ])
        exact Hs011.out _ _ ⟨g0, W.heap.size, rfl, st2⟩
      exact AllReadyH.nil
    refine wpAnyH_with 5 #[true, false, true, false, false, true, false, false] (fun a W => ∃ (g1 : Nat), a = ⟨#[rx a0, rx b0, .pointer (some ⟨w.heap.size, 0, none⟩), .pointer (some ⟨w.heap.size + 1, 0, none⟩), .bool false, undef, .pointer (some ⟨g1, 0, none⟩), undef, undef, undef, undef, undef, undef, undef, .bool true, .bool false, .agg #[.bool a0.s, sv a0.u, sv a0.t], .agg #[.bool b0.s, sv b0.u, sv b0.t], .bool false, .agg #[.bool a0.s, sv a0.u, sv a0.t], undef, .agg #[.bool b0.s, sv b0.u, sv b0.t], undef, undef, undef, undef, undef, undef, undef, undef, undef, undef, undef, undef, undef, undef, undef, undef, undef, undef, undef, undef, undef, undef, undef, undef, undef, undef, undef, undef, undef, undef, undef, undef, undef, undef, undef, undef, undef, undef, undef, undef, undef, undef, undef, undef, undef, undef, undef, undef, undef, undef, undef, undef, undef, undef, undef, undef, undef, undef, undef, undef, undef, undef, undef, undef, undef, undef, undef, undef, undef, undef, undef, undef, undef, undef, undef, undef], []⟩ ∧ Sg w2.drew.heap.size w2.drew W [rblk, rblk] [none, some g1] (fun W => True)) ?_ (fun Hs001 => ?_)
    · rintro a W ⟨g1, rfl, st0⟩
      have hHeld := st0.1
      have st := hide st0
      clear st0
      refine wpAnyH_ready (rs := [1, 4]) (by kernel_rfl) (by simp) ?_
      refine AllReadyH.cons rfl (fun K hK => ?_) ?_
      · go_simp
        go_at_call 19
        refine Calls.mono (rcopy_w (ZA.out.step st.out.1) (by omega)) ?_
        rintro e wx ⟨x0, rfl, hk, bx⟩
        have tx := hk.1
        clear hk
        try dsimp only
        have st2 := Sg.call (G := fun W => Zf W x0 za 12) st.out bx Firm2.yes tx
        have hSt := hide st2
        refine hK.out _ _ st2.1 (fun hHeld => ?_)
        clear hK K st2
        (try simp only [Act.put, List.setIfInBounds_toArray, List.set_cons_zero, List.set_cons_succ])
        exact Hs101.out _ _ ⟨x0, g1, rfl, hSt.out⟩
      refine AllReadyH.cons rfl (fun K hK => ?_) ?_
      · go_simp
        have st2 := Sg.make st.out Firm2.yes 0 _ rfl (by simp)
        refine hK.out _ _ st2.1 (fun hHeld => ?_)
        (try simp only [Act.put, List.setIfInBounds_toArray, List.set_cons_zero, List.set_cons_succ])
        exact Hs011.out _ _ ⟨W.heap.size, g1, rfl, st2⟩
      exact AllReadyH.nil
    refine wpAnyH_take (i := 0) (v := ?_) rfl (by kernel_rfl) (by kernel_rfl) (by kernel_rfl) (fun _ _ _ h => h) (Or.inl ⟨?_, ?_⟩) (by assumption) ?_
    rotate_left
    · rfl
    · (intro w hSw; have e0 := cell_keep p0 hSw; have e1 := cell_keep p1 hSw; have e2 := cell_keep p2 hSw; go_simp; try with_reducible rfl)
    (try simp only [Act.put, List.setIfInBounds_toArray, List.set_cons_zero, List.set_cons_succ])
    refine wpAnyH_take (i := 2) (v := ?_) rfl (by kernel_rfl) (by kernel_rfl) (by kernel_rfl) (fun _ _ _ h => h) (Or.inl ⟨?_, ?_⟩) (by assumption) ?_
    rotate_left
    · rfl
    · (intro w hSw; have e0 := cell_keep q0 hSw; have e1 := cell_keep q1 hSw; have e2 := cell_keep q2 hSw; go_simp; try with_reducible rfl)
    (try simp only [Act.put, List.setIfInBounds_toArray, List.set_cons_zero, List.set_cons_succ])
    refine wpAnyH_with 6 #[true, false, true, false, false, false, false, false] (fun a W => a = ⟨#[rx a0, rx b0, .pointer (some ⟨w.heap.size, 0, none⟩), .pointer (some ⟨w.heap.size + 1, 0, none⟩), .bool false, undef, undef, undef, undef, undef, undef, undef, undef, undef, .bool true, .bool false, .agg #[.bool a0.s, sv a0.u, sv a0.t], .agg #[.bool b0.s, sv b0.u, sv b0.t], .bool false, .agg #[.bool a0.s, sv a0.u, sv a0.t], undef, .agg #[.bool b0.s, sv b0.u, sv b0.t], undef, undef, undef, undef, undef, undef, undef, undef, undef, undef, undef, undef, undef, undef, undef, undef, undef, undef, undef, undef, undef, undef, undef, undef, undef, undef, undef, undef, undef, undef, undef, undef, undef, undef, undef, undef, undef, undef, undef, undef, undef, undef, undef, undef, undef, undef, undef, undef, undef, undef, undef, undef, undef, undef, undef, undef, undef, undef, undef, undef, undef, undef, undef, undef, undef, undef, undef, undef, undef, undef, undef, undef, undef, undef, undef, undef], []⟩ ∧ Sg w2.drew.heap.size w2.drew W [rblk, rblk] [none, none] (fun W => True)) ?_ (fun Hs => Hs.out _ _ ⟨rfl, Sg.start _ _ 2⟩)
    rintro a W ⟨rfl, st0⟩
    have hHeld := st0.1
    have st := hide st0
    clear st0
    refine wpAnyH_ready (rs := [1, 4, 5]) (by kernel_rfl) (by simp) ?_
    refine AllReadyH.cons rfl (fun K hK => ?_) ?_
    · go_simp
      go_at_call 19
      refine Calls.mono (rcopy_w (ZA.out.step st.out.1) (by omega)) ?_
      rintro e wx ⟨x0, rfl, hk, bx⟩
      have tx := hk.1
      clear hk
      try dsimp only
      have st2 := Sg.call (G := fun W => Zf W x0 za 12) st.out bx Firm2.yes tx
      have hSt := hide st2
      refine hK.out _ _ st2.1 (fun hHeld => ?_)
      clear hK K st2
      (try simp only [Act.put, List.setIfInBounds_toArray, List.set_cons_zero, List.set_cons_succ])
      exact Hs100.out _ _ ⟨x0, rfl, hSt.out⟩
    refine AllReadyH.cons rfl (fun K hK => ?_) ?_
    · go_simp
      have st2 := Sg.make st.out Firm2.yes 0 _ rfl (by simp)
      refine hK.out _ _ st2.1 (fun hHeld => ?_)
      (try simp only [Act.put, List.setIfInBounds_toArray, List.set_cons_zero, List.set_cons_succ])
      exact Hs010.out _ _ ⟨W.heap.size, rfl, st2⟩
    refine AllReadyH.cons rfl (fun K hK => ?_) ?_
    · go_simp
      have st2 := Sg.make st.out Firm2.yes 1 _ rfl (by simp)
      refine hK.out _ _ st2.1 (fun hHeld => ?_)
      (try simp only [Act.put, List.setIfInBounds_toArray, List.set_cons_zero, List.set_cons_succ])
      exact Hs001.out _ _ ⟨W.heap.size, rfl, st2⟩
    exact AllReadyH.nil
theorem ratsums_go (w : World) (a0 : Rx) (ra : Rat) (b0 : Rx) (rb : Rat) (ha : Ra w (rx a0) ra 17592186043904) (hb : Ra w (rx b0) rb 17592186043904) :
    Calls Tryz.prog 3 #[rx a0, rx b0] w fun e w' => e = .returned (.bool true) ∧ Below w.heap.size w w' := ratsums_true w ⟨a0.s, a0.u, a0.t, ra⟩ ⟨b0.s, b0.u, b0.t, rb⟩ ha hb
end Go.Proofs.YtajjpepjbflojaaGreat
