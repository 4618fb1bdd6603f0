/-
  The walk of RatCeils: true.
-/
import Derived.Test.YtpcchagnbkohnaaRatM
import Derived.Test.YtpcchagnbkohnaaLat2


namespace Go.Proofs.Ytpcchagnbkohnaa
open Go.RowKit Go.Proofs.Ytpcchagnbkohnaa.Num
set_option linter.unusedVariables false
set_option linter.unusedSimpArgs false
set_option maxRecDepth 100000

set_option maxHeartbeats 8000000 in
theorem ratceils_true (w : World) (s : Bool) (u t : Value) (x y : Nat) (hu : Nw w u x 1048576) (hv : Nw w t y 1048576) :
    Calls Try.prog 9 #[rv s u t] w fun e w' => e = .returned (.bool true) ∧ Below w.heap.size w w' := by
  obtain ⟨A, n, c, rfl⟩ := hu.slice
  obtain ⟨D, m, d, rfl⟩ := hv.slice
  obtain ⟨r, hr⟩ : ∃ r, mkRat (zi s x) (dn y) = r := ⟨_, rfl⟩
  have ha : Ra w (rv s (.slice A n c) (.slice D m d)) r 1048576 := ⟨s, _, _, x, y, rfl, hu, hv, hr.symm⟩
  obtain ⟨b1, y1⟩ := fbox1 w s A n c D m d
  have RA := hide (ha.step b1)
  have B := hide b1
  have Y := hide y1
  clear hu hv hr ha b1 y1
  go_enter Try.func9, Try.ntmps9
  go_wp2_with fail
  refine (rspeaks_true _).mono ?_
  rintro e w1 ⟨rfl, b⟩
  have bx := Below.step1 b (Below.drew (Below.refl w1.heap.size w1))
  have P := hide (Y.out.step bx)
  have RA := hide (RA.out.step bx)
  have B := hide (Below.step B.out B.out.size bx)
  clear b bx Y
  go_wp2_with fail
  refine wp_region_held_drew (S := fun W => Below w1.drew.heap.size w1.drew W) (by kernel_rfl) (Below.refl _ _) (fun hHeld => ?_)
  refine wpAnyH_with 2 #[true, true, true, true, true, true, true, true, false, false] (fun a W => ∃ (s1 : Bool) (A1 : Option Addr) (n1 c1 : Nat) (s2 : Bool) (A2 : Option Addr) (n2 c2 : Nat) (D2 : Option Addr) (m2 d2 : Nat) (s3 : Bool) (A3 : Option Addr) (n3 c3 : Nat) (s4 : Bool) (A4 : Option Addr) (n4 c4 : Nat) (D4 : Option Addr) (m4 d4 : Nat) (g0 : Nat) (g1 : Nat), a = ⟨#[rv s (.slice A n c) (.slice D m d), .pointer (some ⟨w.heap.size, 0, none⟩), .bool false, .pointer (some ⟨g0, 0, none⟩), .pointer (some ⟨g1, 0, none⟩), .bool true, .bool false, rv s (.slice A n c) (.slice D m d), zv s1 (.slice A1 n1 c1), rv s2 (.slice A2 n2 c2) (.slice D2 m2 d2), rv s (.slice A n c) (.slice D m d), zv s3 (.slice A3 n3 c3), rv s4 (.slice A4 n4 c4) (.slice D4 m4 d4), undef, undef, undef, undef, undef, undef, undef, undef, undef, undef, undef, undef, undef, undef, undef, undef, undef, undef, undef, undef, undef, undef, undef, undef, undef, undef, undef, undef, undef, undef, undef, undef, undef, undef, undef, undef, undef, undef, undef, undef], []⟩ ∧ Sg w1.drew.heap.size w1.drew W [rblk, rblk] [some g0, some g1] (fun W => ((((True ∧ Zi W (zv s1 (.slice A1 n1 c1)) (r.floor) (1048576 + 1)) ∧ Rc W (rv s2 (.slice A2 n2 c2) (.slice D2 m2 d2)) (((r.floor : Int) : Rat)) (1048576 + 1)) ∧ Zi W (zv s3 (.slice A3 n3 c3)) (-((-r).floor)) (1048576 + 1)) ∧ Rc W (rv s4 (.slice A4 n4 c4) (.slice D4 m4 d4)) (((-((-r).floor) : Int) : Rat)) (1048576 + 1)))) ?_ (fun Hs411 => ?_)
  · rintro a W ⟨s1, A1, n1, c1, s2, A2, n2, c2, D2, m2, d2, s3, A3, n3, c3, s4, A4, n4, c4, D4, m4, d4, g0, g1, rfl, st0⟩
    have hHeld := st0.1
    have st := hide st0
    clear st0
    obtain ⟨k0, f0⟩ := Sg.cells st.out 0 g0 #[.bool false, .slice none 0 0, .slice none 0 0] 28 rfl rfl 0
    obtain ⟨k1, f1⟩ := Sg.cells st.out 0 g0 #[.bool false, .slice none 0 0, .slice none 0 0] 28 rfl rfl 1
    obtain ⟨k2, f2⟩ := Sg.cells st.out 0 g0 #[.bool false, .slice none 0 0, .slice none 0 0] 28 rfl rfl 2
    simp only [List.getElem?_toArray, List.getElem?_cons_zero, List.getElem?_cons_succ] at k0
    simp only [List.getElem?_toArray, List.getElem?_cons_zero, List.getElem?_cons_succ] at k1
    simp only [List.getElem?_toArray, List.getElem?_cons_zero, List.getElem?_cons_succ] at k2
    have st9 := st.out
    have st9 := Sg.put st9 (Firm2.and (Firm2.and (Firm2.and (Firm2.and Firm2.yes (Firm2.zi _ _ _)) (Firm2.rc _ _ _)) (Firm2.zi _ _ _)) (Firm2.rc _ _ _)) 0 g0 0 _ 28 (.bool s2) rfl rfl rfl
    have st9 := Sg.put st9 (Firm2.and (Firm2.and (Firm2.and (Firm2.and Firm2.yes (Firm2.zi _ _ _)) (Firm2.rc _ _ _)) (Firm2.zi _ _ _)) (Firm2.rc _ _ _)) 0 g0 1 _ 28 (.slice A2 n2 c2) rfl rfl rfl
    have st9 := Sg.put st9 (Firm2.and (Firm2.and (Firm2.and (Firm2.and Firm2.yes (Firm2.zi _ _ _)) (Firm2.rc _ _ _)) (Firm2.zi _ _ _)) (Firm2.rc _ _ _)) 0 g0 2 _ 28 (.slice D2 m2 d2) rfl rfl rfl
    have st8 := hide st9
    clear st9
    refine wpAnyH_ready (rs := [8]) (by kernel_rfl) (by simp) ?_
    refine AllReadyH.cons rfl (fun K hK => ?_) ?_
    rotate_left
    · exact AllReadyH.nil
    go_simp
    refine hK.out _ _ st8.out.1 (fun hHeld => ?_)
    clear hK K k0 f0 k1 f1 k2 f2 st
    (try simp only [Act.put, List.setIfInBounds_toArray, List.set_cons_zero, List.set_cons_succ])
    generalize (((W.setCell ⟨g0, 0, none⟩ _).setCell ⟨g0, 1, none⟩ _).setCell ⟨g0, 2, none⟩ _) = W5 at *
    have st := st8
    clear st8
    obtain ⟨k0, f0⟩ := Sg.cells st.out 1 g1 #[.bool false, .slice none 0 0, .slice none 0 0] 28 rfl rfl 0
    obtain ⟨k1, f1⟩ := Sg.cells st.out 1 g1 #[.bool false, .slice none 0 0, .slice none 0 0] 28 rfl rfl 1
    obtain ⟨k2, f2⟩ := Sg.cells st.out 1 g1 #[.bool false, .slice none 0 0, .slice none 0 0] 28 rfl rfl 2
    simp only [List.getElem?_toArray, List.getElem?_cons_zero, List.getElem?_cons_succ] at k0
    simp only [List.getElem?_toArray, List.getElem?_cons_zero, List.getElem?_cons_succ] at k1
    simp only [List.getElem?_toArray, List.getElem?_cons_zero, List.getElem?_cons_succ] at k2
    have st9 := st.out
    have st9 := Sg.put st9 (Firm2.and (Firm2.and (Firm2.and (Firm2.and Firm2.yes (Firm2.zi _ _ _)) (Firm2.rc _ _ _)) (Firm2.zi _ _ _)) (Firm2.rc _ _ _)) 1 g1 0 _ 28 (.bool s4) rfl rfl rfl
    have st9 := Sg.put st9 (Firm2.and (Firm2.and (Firm2.and (Firm2.and Firm2.yes (Firm2.zi _ _ _)) (Firm2.rc _ _ _)) (Firm2.zi _ _ _)) (Firm2.rc _ _ _)) 1 g1 1 _ 28 (.slice A4 n4 c4) rfl rfl rfl
    have st9 := Sg.put st9 (Firm2.and (Firm2.and (Firm2.and (Firm2.and Firm2.yes (Firm2.zi _ _ _)) (Firm2.rc _ _ _)) (Firm2.zi _ _ _)) (Firm2.rc _ _ _)) 1 g1 2 _ 28 (.slice D4 m4 d4) rfl rfl rfl
    have st8 := hide st9
    clear st9
    refine wpAnyH_ready (rs := [9]) (by kernel_rfl) (by simp) ?_
    refine AllReadyH.cons rfl (fun K hK => ?_) ?_
    rotate_left
    · exact AllReadyH.nil
    go_simp
    refine hK.out _ _ st8.out.1 (fun hHeld => ?_)
    clear hK K k0 f0 k1 f1 k2 f2 st
    (try simp only [Act.put, List.setIfInBounds_toArray, List.set_cons_zero, List.set_cons_succ])
    generalize (((W5.setCell ⟨g1, 0, none⟩ _).setCell ⟨g1, 1, none⟩ _).setCell ⟨g1, 2, none⟩ _) = W6 at *
    have st := st8
    clear st8
    refine wpAnyH_done (by kernel_rfl) ?_ _
    clear hHeld
    have s9 := st.out
    have R : Hid (Ra W6 (rv s (.slice A n c) (.slice D m d)) r (1048576 + 1) ∧ Rc W6 (rv s2 (.slice A2 n2 c2) (.slice D2 m2 d2)) ((r.floor : Int) : Rat) (1048576 + 1) ∧ Rc W6 (rv s4 (.slice A4 n4 c4) (.slice D4 m4 d4)) ((-((-r).floor) : Int) : Rat) (1048576 + 1)) := hide ⟨(RA.out.step s9.1).more (by omega), s9.2.2.1.1.1.2, s9.2.2.1.2⟩
    have P := hide (And.intro (P.out.step s9.1) (And.intro (show Fx W6 g0 s2 A2 n2 c2 D2 m2 d2 from ⟨(Sg.cells s9 0 g0 _ _ rfl rfl 0).1, (Sg.cells s9 0 g0 _ _ rfl rfl 1).1, (Sg.cells s9 0 g0 _ _ rfl rfl 2).1⟩) (show Fx W6 g1 s4 A4 n4 c4 D4 m4 d4 from ⟨(Sg.cells s9 1 g1 _ _ rfl rfl 0).1, (Sg.cells s9 1 g1 _ _ rfl rfl 1).1, (Sg.cells s9 1 g1 _ _ rfl rfl 2).1⟩)))
    have B := hide (Below.step B.out B.out.size s9.1)
    clear s9 st RA 
    generalize W6 = w2 at *
    by_cases hw : (r.floor : Rat) = r
    · have e1 : -((-r).floor) = r.floor := ceil_whole hw
      rw [e1, hw] at R
      have efr := hide (show r - (r.floor : Rat) = 0 by rw [hw]; grind)
      have WH := hide (iswhole_r R.out.1 (by omega) (by omega))
      rw [decide_eq_true hw] at WH
      have hwh := hide hw
      clear hw e1
      obtain ⟨p0, p1, p2⟩ := P.out.1
      go_wp2_with fail
      refine WH.out.mono ?_
      rintro e w3 ⟨rfl, b⟩
      have bx := Below.step1 b (Below.drew (Below.refl w3.heap.size w3))
      clear WH p0 p1 p2 b
      replace P := hide (And.intro (P.out.1.step bx) (And.intro (P.out.2.1.step bx) (P.out.2.2.step bx)))
      replace R := hide (And.intro (R.out.1.step bx) (And.intro (R.out.2.1.step bx) (R.out.2.2.step bx)))
      replace B := hide (Below.step B.out B.out.size bx)
      clear bx
      go_wp2_with fail
      go_region_held3 (fun W => (W.cell? ⟨w.heap.size, 0, none⟩ = some (.bool s) ∧ W.cell? ⟨w.heap.size, 1, none⟩ = some (.slice A n c) ∧ W.cell? ⟨w.heap.size, 2, none⟩ = some (.slice D m d)) ∧ (W.cell? ⟨g0, 0, none⟩ = some (.bool s2) ∧ W.cell? ⟨g0, 1, none⟩ = some (.slice A2 n2 c2) ∧ W.cell? ⟨g0, 2, none⟩ = some (.slice D2 m2 d2)) ∧ (W.cell? ⟨g1, 0, none⟩ = some (.bool s4) ∧ W.cell? ⟨g1, 1, none⟩ = some (.slice A4 n4 c4) ∧ W.cell? ⟨g1, 2, none⟩ = some (.slice D4 m4 d4)))
        (exact P.out)
        (first
          | (go_at_call 44; refine Calls.mono (form_q (L := 1048576 + 1) R.out.1 (by omega) (by omega)) ?_; rintro e wx ⟨vx, rfl, tx, bx⟩; replace P := hide (And.intro (P.out.1.step bx) (And.intro (P.out.2.1.step bx) (P.out.2.2.step bx))); replace R := hide (And.intro (R.out.1.step bx) (And.intro (R.out.2.1.step bx) (R.out.2.2.step bx))); replace B := hide (Below.step B.out B.out.size bx))
          | (go_at_call 15; refine Calls.mono (rsame_c (r := r) (L := 1048576 + 1) (M := 1048576 + 1) ?_ ?_) ?_; (focus ((repeat (first | (with_reducible assumption) | (with_reducible exact R.out.2.1) | (with_reducible exact R.out.2.2) | (with_reducible refine Rc.step ?_ (by with_reducible assumption)))); done)); (focus ((repeat (first | (with_reducible assumption) | (with_reducible exact R.out.2.1) | (with_reducible exact R.out.2.2) | (with_reducible refine Rc.step ?_ (by with_reducible assumption)))); done)); rintro e wx ⟨rfl, bx⟩; replace P := hide (And.intro (P.out.1.step bx) (And.intro (P.out.2.1.step bx) (P.out.2.2.step bx))); replace R := hide (And.intro (R.out.1.step bx) (And.intro (R.out.2.1.step bx) (R.out.2.2.step bx))); replace B := hide (Below.step B.out B.out.size bx))
          | (go_at_call 30; refine Calls.mono (frac_r (L := 1048576 + 1) R.out.1 (by omega) (by omega)) ?_; rw [efr.out]; rintro e wx ⟨vx, rfl, tx, bx⟩; replace P := hide (And.intro (P.out.1.step bx) (And.intro (P.out.2.1.step bx) (P.out.2.2.step bx))); replace R := hide (And.intro (R.out.1.step bx) (And.intro (R.out.2.1.step bx) (R.out.2.2.step bx))); replace B := hide (Below.step B.out B.out.size bx))
          | (go_at_call 45; refine Calls.mono (sign_r (r := 0) (L := 1048576 + 1 + 1) (Rc.ra tx) (by omega)) ?_; rw [cmpR_same]; rintro e wx ⟨rfl, bx⟩; replace P := hide (And.intro (P.out.1.step bx) (And.intro (P.out.2.1.step bx) (P.out.2.2.step bx))); replace R := hide (And.intro (R.out.1.step bx) (And.intro (R.out.2.1.step bx) (R.out.2.2.step bx))); replace B := hide (Below.step B.out B.out.size bx)))
      all_goals
        go_wp2_with fail
        go_ret
        exact ⟨rfl, B.out⟩
    · have e1 : -((-r).floor) = r.floor + 1 := ceil_not hw
      rw [e1, Rat.intCast_add] at R
      obtain ⟨hl1, hl2⟩ := flo r
      have hlt : (r.floor : Rat) < r := by grind
      have ec1 := hide (cmpR_lt hlt)
      have ec2 := hide (show cmpR r ((r.floor : Rat) + ((1 : Int) : Rat)) = -1 from cmpR_lt hl2)
      have ec3 := hide (cmpR_gt (frac_pos hw))
      have WH := hide (iswhole_r R.out.1 (by omega) (by omega))
      rw [decide_eq_false hw] at WH
      clear hw e1 hl1 hl2 hlt
      obtain ⟨p0, p1, p2⟩ := P.out.1
      go_wp2_with fail
      refine WH.out.mono ?_
      rintro e w3 ⟨rfl, b⟩
      have bx := Below.step1 b (Below.drew (Below.refl w3.heap.size w3))
      clear WH p0 p1 p2 b
      replace P := hide (And.intro (P.out.1.step bx) (And.intro (P.out.2.1.step bx) (P.out.2.2.step bx)))
      replace R := hide (And.intro (R.out.1.step bx) (And.intro (R.out.2.1.step bx) (R.out.2.2.step bx)))
      replace B := hide (Below.step B.out B.out.size bx)
      clear bx
      go_wp2_with fail
      go_region_held3 (fun W => (W.cell? ⟨w.heap.size, 0, none⟩ = some (.bool s) ∧ W.cell? ⟨w.heap.size, 1, none⟩ = some (.slice A n c) ∧ W.cell? ⟨w.heap.size, 2, none⟩ = some (.slice D m d)) ∧ (W.cell? ⟨g0, 0, none⟩ = some (.bool s2) ∧ W.cell? ⟨g0, 1, none⟩ = some (.slice A2 n2 c2) ∧ W.cell? ⟨g0, 2, none⟩ = some (.slice D2 m2 d2)) ∧ (W.cell? ⟨g1, 0, none⟩ = some (.bool s4) ∧ W.cell? ⟨g1, 1, none⟩ = some (.slice A4 n4 c4) ∧ W.cell? ⟨g1, 2, none⟩ = some (.slice D4 m4 d4)))
        (exact P.out)
        (first
          | (go_at_call 38; refine Calls.mono (whole_r _ 1 (by omega) (by omega)) ?_; rintro e wx ⟨vx, rfl, tx, bx⟩; replace P := hide (And.intro (P.out.1.step bx) (And.intro (P.out.2.1.step bx) (P.out.2.2.step bx))); replace R := hide (And.intro (R.out.1.step bx) (And.intro (R.out.2.1.step bx) (R.out.2.2.step bx))); replace B := hide (Below.step B.out B.out.size bx))
          | (go_at_call 41; refine Calls.mono (add_r (L := 1048576 + 1) (Rc.ra R.out.2.1) (Ra.more (Rc.ra tx) (by omega)) (by omega) (by omega)) ?_; rintro e wx ⟨vx, rfl, tx, bx⟩; replace P := hide (And.intro (P.out.1.step bx) (And.intro (P.out.2.1.step bx) (P.out.2.2.step bx))); replace R := hide (And.intro (R.out.1.step bx) (And.intro (R.out.2.1.step bx) (R.out.2.2.step bx))); replace B := hide (Below.step B.out B.out.size bx))
          | (go_at_call 15; refine Calls.mono (rsame_c (r := (r.floor : Rat) + ((1 : Int) : Rat)) (L := 1048576 + 1) (M := 2 * (1048576 + 1) + 1) ?_ ?_) ?_; (focus ((repeat (first | (with_reducible assumption) | (with_reducible exact R.out.2.1) | (with_reducible exact R.out.2.2) | (with_reducible refine Rc.step ?_ (by with_reducible assumption)))); done)); (focus ((repeat (first | (with_reducible assumption) | (with_reducible exact R.out.2.1) | (with_reducible exact R.out.2.2) | (with_reducible refine Rc.step ?_ (by with_reducible assumption)))); done)); rintro e wx ⟨rfl, bx⟩; replace P := hide (And.intro (P.out.1.step bx) (And.intro (P.out.2.1.step bx) (P.out.2.2.step bx))); replace R := hide (And.intro (R.out.1.step bx) (And.intro (R.out.2.1.step bx) (R.out.2.2.step bx))); replace B := hide (Below.step B.out B.out.size bx))
          | (go_at_call 42; refine Calls.mono (cmp_r (r1 := (r.floor : Rat)) (r2 := r) (L := 1048576 + 1) ?_ ?_ (by omega) (by omega)) ?_; (focus ((with_reducible exact Rc.ra R.out.2.1); done)); (focus ((with_reducible exact R.out.1); done)); rw [ec1.out]; rintro e wx ⟨rfl, bx⟩; replace P := hide (And.intro (P.out.1.step bx) (And.intro (P.out.2.1.step bx) (P.out.2.2.step bx))); replace R := hide (And.intro (R.out.1.step bx) (And.intro (R.out.2.1.step bx) (R.out.2.2.step bx))); replace B := hide (Below.step B.out B.out.size bx))
          | (go_at_call 42; refine Calls.mono (cmp_r (r1 := r) (r2 := (r.floor : Rat) + ((1 : Int) : Rat)) (L := 1048576 + 1) ?_ ?_ (by omega) (by omega)) ?_; (focus ((with_reducible exact R.out.1); done)); (focus ((with_reducible exact Rc.ra R.out.2.2); done)); rw [ec2.out]; rintro e wx ⟨rfl, bx⟩; replace P := hide (And.intro (P.out.1.step bx) (And.intro (P.out.2.1.step bx) (P.out.2.2.step bx))); replace R := hide (And.intro (R.out.1.step bx) (And.intro (R.out.2.1.step bx) (R.out.2.2.step bx))); replace B := hide (Below.step B.out B.out.size bx))
          | (go_at_call 30; refine Calls.mono (frac_r (L := 1048576 + 1) R.out.1 (by omega) (by omega)) ?_; skip; rintro e wx ⟨vx, rfl, tx, bx⟩; replace P := hide (And.intro (P.out.1.step bx) (And.intro (P.out.2.1.step bx) (P.out.2.2.step bx))); replace R := hide (And.intro (R.out.1.step bx) (And.intro (R.out.2.1.step bx) (R.out.2.2.step bx))); replace B := hide (Below.step B.out B.out.size bx))
          | (go_at_call 45; refine Calls.mono (sign_r (r := r - (r.floor : Rat)) (L := 1048576 + 1 + 1) (Rc.ra tx) (by omega)) ?_; rw [ec3.out]; rintro e wx ⟨rfl, bx⟩; replace P := hide (And.intro (P.out.1.step bx) (And.intro (P.out.2.1.step bx) (P.out.2.2.step bx))); replace R := hide (And.intro (R.out.1.step bx) (And.intro (R.out.2.1.step bx) (R.out.2.2.step bx))); replace B := hide (Below.step B.out B.out.size bx)))
      all_goals
        go_wp2_with fail
        go_ret
        exact ⟨rfl, B.out⟩
  refine wpAnyH_with 3 #[true, true, true, true, true, true, true, false, false, false] (fun a W => ∃ (s1 : Bool) (A1 : Option Addr) (n1 c1 : Nat) (s2 : Bool) (A2 : Option Addr) (n2 c2 : Nat) (D2 : Option Addr) (m2 d2 : Nat) (s3 : Bool) (A3 : Option Addr) (n3 c3 : Nat) (s4 : Bool) (A4 : Option Addr) (n4 c4 : Nat) (D4 : Option Addr) (m4 d4 : Nat) (g0 : Nat), a = ⟨#[rv s (.slice A n c) (.slice D m d), .pointer (some ⟨w.heap.size, 0, none⟩), .bool false, .pointer (some ⟨g0, 0, none⟩), undef, .bool true, .bool false, rv s (.slice A n c) (.slice D m d), zv s1 (.slice A1 n1 c1), rv s2 (.slice A2 n2 c2) (.slice D2 m2 d2), rv s (.slice A n c) (.slice D m d), zv s3 (.slice A3 n3 c3), rv s4 (.slice A4 n4 c4) (.slice D4 m4 d4), undef, undef, undef, undef, undef, undef, undef, undef, undef, undef, undef, undef, undef, undef, undef, undef, undef, undef, undef, undef, undef, undef, undef, undef, undef, undef, undef, undef, undef, undef, undef, undef, undef, undef, undef, undef, undef, undef, undef, undef], []⟩ ∧ Sg w1.drew.heap.size w1.drew W [rblk, rblk] [some g0, none] (fun W => ((((True ∧ Zi W (zv s1 (.slice A1 n1 c1)) (r.floor) (1048576 + 1)) ∧ Rc W (rv s2 (.slice A2 n2 c2) (.slice D2 m2 d2)) (((r.floor : Int) : Rat)) (1048576 + 1)) ∧ Zi W (zv s3 (.slice A3 n3 c3)) (-((-r).floor)) (1048576 + 1)) ∧ Rc W (rv s4 (.slice A4 n4 c4) (.slice D4 m4 d4)) (((-((-r).floor) : Int) : Rat)) (1048576 + 1)))) ?_ (fun Hs410 => ?_)
  · rintro a W ⟨s1, A1, n1, c1, s2, A2, n2, c2, D2, m2, d2, s3, A3, n3, c3, s4, A4, n4, c4, D4, m4, d4, g0, rfl, st0⟩
    have hHeld := st0.1
    have st := hide st0
    clear st0
    refine wpAnyH_ready (rs := [7]) (by kernel_rfl) (by simp) ?_
    refine AllReadyH.cons rfl (fun K hK => ?_) ?_
    · go_simp
      have st2 := Sg.make st.out (Firm2.and (Firm2.and (Firm2.and (Firm2.and Firm2.yes (Firm2.zi _ _ _)) (Firm2.rc _ _ _)) (Firm2.zi _ _ _)) (Firm2.rc _ _ _)) 1 _ rfl (by simp)
      refine hK.out _ _ st2.1 (fun hHeld => ?_)
      (try simp only [Act.put, List.setIfInBounds_toArray, List.set_cons_zero, List.set_cons_succ])
      exact Hs411.out _ _ ⟨s1, A1, n1, c1, s2, A2, n2, c2, D2, m2, d2, s3, A3, n3, c3, s4, A4, n4, c4, D4, m4, d4, g0, W.heap.size, rfl, st2⟩
    exact AllReadyH.nil
  refine wpAnyH_with 3 #[true, true, true, true, true, true, false, true, false, false] (fun a W => ∃ (s1 : Bool) (A1 : Option Addr) (n1 c1 : Nat) (s2 : Bool) (A2 : Option Addr) (n2 c2 : Nat) (D2 : Option Addr) (m2 d2 : Nat) (s3 : Bool) (A3 : Option Addr) (n3 c3 : Nat) (s4 : Bool) (A4 : Option Addr) (n4 c4 : Nat) (D4 : Option Addr) (m4 d4 : Nat) (g1 : Nat), a = ⟨#[rv s (.slice A n c) (.slice D m d), .pointer (some ⟨w.heap.size, 0, none⟩), .bool false, undef, .pointer (some ⟨g1, 0, none⟩), .bool true, .bool false, rv s (.slice A n c) (.slice D m d), zv s1 (.slice A1 n1 c1), rv s2 (.slice A2 n2 c2) (.slice D2 m2 d2), rv s (.slice A n c) (.slice D m d), zv s3 (.slice A3 n3 c3), rv s4 (.slice A4 n4 c4) (.slice D4 m4 d4), undef, undef, undef, undef, undef, undef, undef, undef, undef, undef, undef, undef, undef, undef, undef, undef, undef, undef, undef, undef, undef, undef, undef, undef, undef, undef, undef, undef, undef, undef, undef, undef, undef, undef, undef, undef, undef, undef, undef, undef], []⟩ ∧ Sg w1.drew.heap.size w1.drew W [rblk, rblk] [none, some g1] (fun W => ((((True ∧ Zi W (zv s1 (.slice A1 n1 c1)) (r.floor) (1048576 + 1)) ∧ Rc W (rv s2 (.slice A2 n2 c2) (.slice D2 m2 d2)) (((r.floor : Int) : Rat)) (1048576 + 1)) ∧ Zi W (zv s3 (.slice A3 n3 c3)) (-((-r).floor)) (1048576 + 1)) ∧ Rc W (rv s4 (.slice A4 n4 c4) (.slice D4 m4 d4)) (((-((-r).floor) : Int) : Rat)) (1048576 + 1)))) ?_ (fun Hs401 => ?_)
  · rintro a W ⟨s1, A1, n1, c1, s2, A2, n2, c2, D2, m2, d2, s3, A3, n3, c3, s4, A4, n4, c4, D4, m4, d4, g1, rfl, st0⟩
    have hHeld := st0.1
    have st := hide st0
    clear st0
    refine wpAnyH_ready (rs := [6]) (by kernel_rfl) (by simp) ?_
    refine AllReadyH.cons rfl (fun K hK => ?_) ?_
    · go_simp
      have st2 := Sg.make st.out (Firm2.and (Firm2.and (Firm2.and (Firm2.and Firm2.yes (Firm2.zi _ _ _)) (Firm2.rc _ _ _)) (Firm2.zi _ _ _)) (Firm2.rc _ _ _)) 0 _ rfl (by simp)
      refine hK.out _ _ st2.1 (fun hHeld => ?_)
      (try simp only [Act.put, List.setIfInBounds_toArray, List.set_cons_zero, List.set_cons_succ])
      exact Hs411.out _ _ ⟨s1, A1, n1, c1, s2, A2, n2, c2, D2, m2, d2, s3, A3, n3, c3, s4, A4, n4, c4, D4, m4, d4, W.heap.size, g1, rfl, st2⟩
    exact AllReadyH.nil
  refine wpAnyH_with 4 #[true, true, true, true, true, true, false, false, false, false] (fun a W => ∃ (s1 : Bool) (A1 : Option Addr) (n1 c1 : Nat) (s2 : Bool) (A2 : Option Addr) (n2 c2 : Nat) (D2 : Option Addr) (m2 d2 : Nat) (s3 : Bool) (A3 : Option Addr) (n3 c3 : Nat) (s4 : Bool) (A4 : Option Addr) (n4 c4 : Nat) (D4 : Option Addr) (m4 d4 : Nat), a = ⟨#[rv s (.slice A n c) (.slice D m d), .pointer (some ⟨w.heap.size, 0, none⟩), .bool false, undef, undef, .bool true, .bool false, rv s (.slice A n c) (.slice D m d), zv s1 (.slice A1 n1 c1), rv s2 (.slice A2 n2 c2) (.slice D2 m2 d2), rv s (.slice A n c) (.slice D m d), zv s3 (.slice A3 n3 c3), rv s4 (.slice A4 n4 c4) (.slice D4 m4 d4), undef, undef, undef, undef, undef, undef, undef, undef, undef, undef, undef, undef, undef, undef, undef, undef, undef, undef, undef, undef, undef, undef, undef, undef, undef, undef, undef, undef, undef, undef, undef, undef, undef, undef, undef, undef, undef, undef, undef, undef], []⟩ ∧ Sg w1.drew.heap.size w1.drew W [rblk, rblk] [none, none] (fun W => ((((True ∧ Zi W (zv s1 (.slice A1 n1 c1)) (r.floor) (1048576 + 1)) ∧ Rc W (rv s2 (.slice A2 n2 c2) (.slice D2 m2 d2)) (((r.floor : Int) : Rat)) (1048576 + 1)) ∧ Zi W (zv s3 (.slice A3 n3 c3)) (-((-r).floor)) (1048576 + 1)) ∧ Rc W (rv s4 (.slice A4 n4 c4) (.slice D4 m4 d4)) (((-((-r).floor) : Int) : Rat)) (1048576 + 1)))) ?_ (fun Hs400 => ?_)
  · rintro a W ⟨s1, A1, n1, c1, s2, A2, n2, c2, D2, m2, d2, s3, A3, n3, c3, s4, A4, n4, c4, D4, m4, d4, rfl, st0⟩
    have hHeld := st0.1
    have st := hide st0
    clear st0
    refine wpAnyH_ready (rs := [6, 7]) (by kernel_rfl) (by simp) ?_
    refine AllReadyH.cons rfl (fun K hK => ?_) ?_
    · go_simp
      have st2 := Sg.make st.out (Firm2.and (Firm2.and (Firm2.and (Firm2.and Firm2.yes (Firm2.zi _ _ _)) (Firm2.rc _ _ _)) (Firm2.zi _ _ _)) (Firm2.rc _ _ _)) 0 _ rfl (by simp)
      refine hK.out _ _ st2.1 (fun hHeld => ?_)
      (try simp only [Act.put, List.setIfInBounds_toArray, List.set_cons_zero, List.set_cons_succ])
      exact Hs410.out _ _ ⟨s1, A1, n1, c1, s2, A2, n2, c2, D2, m2, d2, s3, A3, n3, c3, s4, A4, n4, c4, D4, m4, d4, W.heap.size, rfl, st2⟩
    refine AllReadyH.cons rfl (fun K hK => ?_) ?_
    · go_simp
      have st2 := Sg.make st.out (Firm2.and (Firm2.and (Firm2.and (Firm2.and Firm2.yes (Firm2.zi _ _ _)) (Firm2.rc _ _ _)) (Firm2.zi _ _ _)) (Firm2.rc _ _ _)) 1 _ rfl (by simp)
      refine hK.out _ _ st2.1 (fun hHeld => ?_)
      (try simp only [Act.put, List.setIfInBounds_toArray, List.set_cons_zero, List.set_cons_succ])
      exact Hs401.out _ _ ⟨s1, A1, n1, c1, s2, A2, n2, c2, D2, m2, d2, s3, A3, n3, c3, s4, A4, n4, c4, D4, m4, d4, W.heap.size, rfl, st2⟩
    exact AllReadyH.nil
  refine wpAnyH_with 3 #[true, true, true, true, true, false, true, true, false, false] (fun a W => ∃ (s1 : Bool) (A1 : Option Addr) (n1 c1 : Nat) (s2 : Bool) (A2 : Option Addr) (n2 c2 : Nat) (D2 : Option Addr) (m2 d2 : Nat) (s3 : Bool) (A3 : Option Addr) (n3 c3 : Nat) (g0 : Nat) (g1 : Nat), a = ⟨#[rv s (.slice A n c) (.slice D m d), .pointer (some ⟨w.heap.size, 0, none⟩), .bool false, .pointer (some ⟨g0, 0, none⟩), .pointer (some ⟨g1, 0, none⟩), .bool true, .bool false, rv s (.slice A n c) (.slice D m d), zv s1 (.slice A1 n1 c1), rv s2 (.slice A2 n2 c2) (.slice D2 m2 d2), rv s (.slice A n c) (.slice D m d), zv s3 (.slice A3 n3 c3), undef, undef, undef, undef, undef, undef, undef, undef, undef, undef, undef, undef, undef, undef, undef, undef, undef, undef, undef, undef, undef, undef, undef, undef, undef, undef, undef, undef, undef, undef, undef, undef, undef, undef, undef, undef, undef, undef, undef, undef, undef], []⟩ ∧ Sg w1.drew.heap.size w1.drew W [rblk, rblk] [some g0, some g1] (fun W => (((True ∧ Zi W (zv s1 (.slice A1 n1 c1)) (r.floor) (1048576 + 1)) ∧ Rc W (rv s2 (.slice A2 n2 c2) (.slice D2 m2 d2)) (((r.floor : Int) : Rat)) (1048576 + 1)) ∧ Zi W (zv s3 (.slice A3 n3 c3)) (-((-r).floor)) (1048576 + 1)))) ?_ (fun Hs311 => ?_)
  · rintro a W ⟨s1, A1, n1, c1, s2, A2, n2, c2, D2, m2, d2, s3, A3, n3, c3, g0, g1, rfl, st0⟩
    have hHeld := st0.1
    have st := hide st0
    clear st0
    refine wpAnyH_ready (rs := [5]) (by kernel_rfl) (by simp) ?_
    refine AllReadyH.cons rfl (fun K hK => ?_) ?_
    · go_simp
      go_at_call 14
      refine Calls.mono (ofint_r (L := 1048576 + 1) (Zi.za st.out.2.2.1.2) (by omega) (by omega)) ?_
      rintro e wx ⟨v9, rfl, hq, bx⟩
      obtain ⟨s4, A4, n4, c4, D4, m4, d4, rfl, tx⟩ := hq.parts
      clear hq
      try dsimp only
      have st2 := Sg.call (G := fun W => Rc W (rv s4 (.slice A4 n4 c4) (.slice D4 m4 d4)) (((-((-r).floor) : Int) : Rat)) (1048576 + 1)) st.out bx (Firm2.and (Firm2.and (Firm2.and Firm2.yes (Firm2.zi _ _ _)) (Firm2.rc _ _ _)) (Firm2.zi _ _ _)) tx
      have hSt := hide st2
      refine hK.out _ _ st2.1 (fun hHeld => ?_)
      clear hK K st2
      (try simp only [Act.put, List.setIfInBounds_toArray, List.set_cons_zero, List.set_cons_succ])
      exact Hs411.out _ _ ⟨s1, A1, n1, c1, s2, A2, n2, c2, D2, m2, d2, s3, A3, n3, c3, s4, A4, n4, c4, D4, m4, d4, g0, g1, rfl, hSt.out⟩
    exact AllReadyH.nil
  refine wpAnyH_with 4 #[true, true, true, true, true, false, true, false, false, false] (fun a W => ∃ (s1 : Bool) (A1 : Option Addr) (n1 c1 : Nat) (s2 : Bool) (A2 : Option Addr) (n2 c2 : Nat) (D2 : Option Addr) (m2 d2 : Nat) (s3 : Bool) (A3 : Option Addr) (n3 c3 : Nat) (g0 : Nat), a = ⟨#[rv s (.slice A n c) (.slice D m d), .pointer (some ⟨w.heap.size, 0, none⟩), .bool false, .pointer (some ⟨g0, 0, none⟩), undef, .bool true, .bool false, rv s (.slice A n c) (.slice D m d), zv s1 (.slice A1 n1 c1), rv s2 (.slice A2 n2 c2) (.slice D2 m2 d2), rv s (.slice A n c) (.slice D m d), zv s3 (.slice A3 n3 c3), undef, undef, undef, undef, undef, undef, undef, undef, undef, undef, undef, undef, undef, undef, undef, undef, undef, undef, undef, undef, undef, undef, undef, undef, undef, undef, undef, undef, undef, undef, undef, undef, undef, undef, undef, undef, undef, undef, undef, undef, undef], []⟩ ∧ Sg w1.drew.heap.size w1.drew W [rblk, rblk] [some g0, none] (fun W => (((True ∧ Zi W (zv s1 (.slice A1 n1 c1)) (r.floor) (1048576 + 1)) ∧ Rc W (rv s2 (.slice A2 n2 c2) (.slice D2 m2 d2)) (((r.floor : Int) : Rat)) (1048576 + 1)) ∧ Zi W (zv s3 (.slice A3 n3 c3)) (-((-r).floor)) (1048576 + 1)))) ?_ (fun Hs310 => ?_)
  · rintro a W ⟨s1, A1, n1, c1, s2, A2, n2, c2, D2, m2, d2, s3, A3, n3, c3, g0, rfl, st0⟩
    have hHeld := st0.1
    have st := hide st0
    clear st0
    refine wpAnyH_ready (rs := [5, 7]) (by kernel_rfl) (by simp) ?_
    refine AllReadyH.cons rfl (fun K hK => ?_) ?_
    · go_simp
      go_at_call 14
      refine Calls.mono (ofint_r (L := 1048576 + 1) (Zi.za st.out.2.2.1.2) (by omega) (by omega)) ?_
      rintro e wx ⟨v9, rfl, hq, bx⟩
      obtain ⟨s4, A4, n4, c4, D4, m4, d4, rfl, tx⟩ := hq.parts
      clear hq
      try dsimp only
      have st2 := Sg.call (G := fun W => Rc W (rv s4 (.slice A4 n4 c4) (.slice D4 m4 d4)) (((-((-r).floor) : Int) : Rat)) (1048576 + 1)) st.out bx (Firm2.and (Firm2.and (Firm2.and Firm2.yes (Firm2.zi _ _ _)) (Firm2.rc _ _ _)) (Firm2.zi _ _ _)) tx
      have hSt := hide st2
      refine hK.out _ _ st2.1 (fun hHeld => ?_)
      clear hK K st2
      (try simp only [Act.put, List.setIfInBounds_toArray, List.set_cons_zero, List.set_cons_succ])
      exact Hs410.out _ _ ⟨s1, A1, n1, c1, s2, A2, n2, c2, D2, m2, d2, s3, A3, n3, c3, s4, A4, n4, c4, D4, m4, d4, g0, rfl, hSt.out⟩
    refine AllReadyH.cons rfl (fun K hK => ?_) ?_
    · go_simp
      have st2 := Sg.make st.out (Firm2.and (Firm2.and (Firm2.and Firm2.yes (Firm2.zi _ _ _)) (Firm2.rc _ _ _)) (Firm2.zi _ _ _)) 1 _ rfl (by simp)
      refine hK.out _ _ st2.1 (fun hHeld => ?_)
      (try simp only [Act.put, List.setIfInBounds_toArray, List.set_cons_zero, List.set_cons_succ])
      exact Hs311.out _ _ ⟨s1, A1, n1, c1, s2, A2, n2, c2, D2, m2, d2, s3, A3, n3, c3, g0, W.heap.size, rfl, st2⟩
    exact AllReadyH.nil
  refine wpAnyH_with 4 #[true, true, true, true, true, false, false, true, false, false] (fun a W => ∃ (s1 : Bool) (A1 : Option Addr) (n1 c1 : Nat) (s2 : Bool) (A2 : Option Addr) (n2 c2 : Nat) (D2 : Option Addr) (m2 d2 : Nat) (s3 : Bool) (A3 : Option Addr) (n3 c3 : Nat) (g1 : Nat), a = ⟨#[rv s (.slice A n c) (.slice D m d), .pointer (some ⟨w.heap.size, 0, none⟩), .bool false, undef, .pointer (some ⟨g1, 0, none⟩), .bool true, .bool false, rv s (.slice A n c) (.slice D m d), zv s1 (.slice A1 n1 c1), rv s2 (.slice A2 n2 c2) (.slice D2 m2 d2), rv s (.slice A n c) (.slice D m d), zv s3 (.slice A3 n3 c3), undef, undef, undef, undef, undef, undef, undef, undef, undef, undef, undef, undef, undef, undef, undef, undef, undef, undef, undef, undef, undef, undef, undef, undef, undef, undef, undef, undef, undef, undef, undef, undef, undef, undef, undef, undef, undef, undef, undef, undef, undef], []⟩ ∧ Sg w1.drew.heap.size w1.drew W [rblk, rblk] [none, some g1] (fun W => (((True ∧ Zi W (zv s1 (.slice A1 n1 c1)) (r.floor) (1048576 + 1)) ∧ Rc W (rv s2 (.slice A2 n2 c2) (.slice D2 m2 d2)) (((r.floor : Int) : Rat)) (1048576 + 1)) ∧ Zi W (zv s3 (.slice A3 n3 c3)) (-((-r).floor)) (1048576 + 1)))) ?_ (fun Hs301 => ?_)
  · rintro a W ⟨s1, A1, n1, c1, s2, A2, n2, c2, D2, m2, d2, s3, A3, n3, c3, g1, rfl, st0⟩
    have hHeld := st0.1
    have st := hide st0
    clear st0
    refine wpAnyH_ready (rs := [5, 6]) (by kernel_rfl) (by simp) ?_
    refine AllReadyH.cons rfl (fun K hK => ?_) ?_
    · go_simp
      go_at_call 14
      refine Calls.mono (ofint_r (L := 1048576 + 1) (Zi.za st.out.2.2.1.2) (by omega) (by omega)) ?_
      rintro e wx ⟨v9, rfl, hq, bx⟩
      obtain ⟨s4, A4, n4, c4, D4, m4, d4, rfl, tx⟩ := hq.parts
      clear hq
      try dsimp only
      have st2 := Sg.call (G := fun W => Rc W (rv s4 (.slice A4 n4 c4) (.slice D4 m4 d4)) (((-((-r).floor) : Int) : Rat)) (1048576 + 1)) st.out bx (Firm2.and (Firm2.and (Firm2.and Firm2.yes (Firm2.zi _ _ _)) (Firm2.rc _ _ _)) (Firm2.zi _ _ _)) tx
      have hSt := hide st2
      refine hK.out _ _ st2.1 (fun hHeld => ?_)
      clear hK K st2
      (try simp only [Act.put, List.setIfInBounds_toArray, List.set_cons_zero, List.set_cons_succ])
      exact Hs401.out _ _ ⟨s1, A1, n1, c1, s2, A2, n2, c2, D2, m2, d2, s3, A3, n3, c3, s4, A4, n4, c4, D4, m4, d4, g1, rfl, hSt.out⟩
    refine AllReadyH.cons rfl (fun K hK => ?_) ?_
    · go_simp
      have st2 := Sg.make st.out (Firm2.and (Firm2.and (Firm2.and Firm2.yes (Firm2.zi _ _ _)) (Firm2.rc _ _ _)) (Firm2.zi _ _ _)) 0 _ rfl (by simp)
      refine hK.out _ _ st2.1 (fun hHeld => ?_)
      (try simp only [Act.put, List.setIfInBounds_toArray, List.set_cons_zero, List.set_cons_succ])
      exact Hs311.out _ _ ⟨s1, A1, n1, c1, s2, A2, n2, c2, D2, m2, d2, s3, A3, n3, c3, W.heap.size, g1, rfl, st2⟩
    exact AllReadyH.nil
  refine wpAnyH_with 5 #[true, true, true, true, true, false, false, false, false, false] (fun a W => ∃ (s1 : Bool) (A1 : Option Addr) (n1 c1 : Nat) (s2 : Bool) (A2 : Option Addr) (n2 c2 : Nat) (D2 : Option Addr) (m2 d2 : Nat) (s3 : Bool) (A3 : Option Addr) (n3 c3 : Nat), a = ⟨#[rv s (.slice A n c) (.slice D m d), .pointer (some ⟨w.heap.size, 0, none⟩), .bool false, undef, undef, .bool true, .bool false, rv s (.slice A n c) (.slice D m d), zv s1 (.slice A1 n1 c1), rv s2 (.slice A2 n2 c2) (.slice D2 m2 d2), rv s (.slice A n c) (.slice D m d), zv s3 (.slice A3 n3 c3), undef, undef, undef, undef, undef, undef, undef, undef, undef, undef, undef, undef, undef, undef, undef, undef, undef, undef, undef, undef, undef, undef, undef, undef, undef, undef, undef, undef, undef, undef, undef, undef, undef, undef, undef, undef, undef, undef, undef, undef, undef], []⟩ ∧ Sg w1.drew.heap.size w1.drew W [rblk, rblk] [none, none] (fun W => (((True ∧ Zi W (zv s1 (.slice A1 n1 c1)) (r.floor) (1048576 + 1)) ∧ Rc W (rv s2 (.slice A2 n2 c2) (.slice D2 m2 d2)) (((r.floor : Int) : Rat)) (1048576 + 1)) ∧ Zi W (zv s3 (.slice A3 n3 c3)) (-((-r).floor)) (1048576 + 1)))) ?_ (fun Hs300 => ?_)
  · rintro a W ⟨s1, A1, n1, c1, s2, A2, n2, c2, D2, m2, d2, s3, A3, n3, c3, rfl, st0⟩
    have hHeld := st0.1
    have st := hide st0
    clear st0
    refine wpAnyH_ready (rs := [5, 6, 7]) (by kernel_rfl) (by simp) ?_
    refine AllReadyH.cons rfl (fun K hK => ?_) ?_
    · go_simp
      go_at_call 14
      refine Calls.mono (ofint_r (L := 1048576 + 1) (Zi.za st.out.2.2.1.2) (by omega) (by omega)) ?_
      rintro e wx ⟨v9, rfl, hq, bx⟩
      obtain ⟨s4, A4, n4, c4, D4, m4, d4, rfl, tx⟩ := hq.parts
      clear hq
      try dsimp only
      have st2 := Sg.call (G := fun W => Rc W (rv s4 (.slice A4 n4 c4) (.slice D4 m4 d4)) (((-((-r).floor) : Int) : Rat)) (1048576 + 1)) st.out bx (Firm2.and (Firm2.and (Firm2.and Firm2.yes (Firm2.zi _ _ _)) (Firm2.rc _ _ _)) (Firm2.zi _ _ _)) tx
      have hSt := hide st2
      refine hK.out _ _ st2.1 (fun hHeld => ?_)
      clear hK K st2
      (try simp only [Act.put, List.setIfInBounds_toArray, List.set_cons_zero, List.set_cons_succ])
      exact Hs400.out _ _ ⟨s1, A1, n1, c1, s2, A2, n2, c2, D2, m2, d2, s3, A3, n3, c3, s4, A4, n4, c4, D4, m4, d4, rfl, hSt.out⟩
    refine AllReadyH.cons rfl (fun K hK => ?_) ?_
    · go_simp
      have st2 := Sg.make st.out (Firm2.and (Firm2.and (Firm2.and Firm2.yes (Firm2.zi _ _ _)) (Firm2.rc _ _ _)) (Firm2.zi _ _ _)) 0 _ rfl (by simp)
      refine hK.out _ _ st2.1 (fun hHeld => ?_)
      (try simp only [Act.put, List.setIfInBounds_toArray, List.set_cons_zero, List.set_cons_succ])
      exact Hs310.out _ _ ⟨s1, A1, n1, c1, s2, A2, n2, c2, D2, m2, d2, s3, A3, n3, c3, W.heap.size, rfl, st2⟩
    refine AllReadyH.cons rfl (fun K hK => ?_) ?_
    · go_simp
      have st2 := Sg.make st.out (Firm2.and (Firm2.and (Firm2.and Firm2.yes (Firm2.zi _ _ _)) (Firm2.rc _ _ _)) (Firm2.zi _ _ _)) 1 _ rfl (by simp)
      refine hK.out _ _ st2.1 (fun hHeld => ?_)
      (try simp only [Act.put, List.setIfInBounds_toArray, List.set_cons_zero, List.set_cons_succ])
      exact Hs301.out _ _ ⟨s1, A1, n1, c1, s2, A2, n2, c2, D2, m2, d2, s3, A3, n3, c3, W.heap.size, rfl, st2⟩
    exact AllReadyH.nil
  refine wpAnyH_with 4 #[true, true, true, true, false, false, true, true, false, false] (fun a W => ∃ (s1 : Bool) (A1 : Option Addr) (n1 c1 : Nat) (s2 : Bool) (A2 : Option Addr) (n2 c2 : Nat) (D2 : Option Addr) (m2 d2 : Nat) (g0 : Nat) (g1 : Nat), a = ⟨#[rv s (.slice A n c) (.slice D m d), .pointer (some ⟨w.heap.size, 0, none⟩), .bool false, .pointer (some ⟨g0, 0, none⟩), .pointer (some ⟨g1, 0, none⟩), .bool true, .bool false, rv s (.slice A n c) (.slice D m d), zv s1 (.slice A1 n1 c1), rv s2 (.slice A2 n2 c2) (.slice D2 m2 d2), rv s (.slice A n c) (.slice D m d), undef, undef, undef, undef, undef, undef, undef, undef, undef, undef, undef, undef, undef, undef, undef, undef, undef, undef, undef, undef, undef, undef, undef, undef, undef, undef, undef, undef, undef, undef, undef, undef, undef, undef, undef, undef, undef, undef, undef, undef, undef, undef], []⟩ ∧ Sg w1.drew.heap.size w1.drew W [rblk, rblk] [some g0, some g1] (fun W => ((True ∧ Zi W (zv s1 (.slice A1 n1 c1)) (r.floor) (1048576 + 1)) ∧ Rc W (rv s2 (.slice A2 n2 c2) (.slice D2 m2 d2)) (((r.floor : Int) : Rat)) (1048576 + 1)))) ?_ (fun Hs211 => ?_)
  · rintro a W ⟨s1, A1, n1, c1, s2, A2, n2, c2, D2, m2, d2, g0, g1, rfl, st0⟩
    have hHeld := st0.1
    have st := hide st0
    clear st0
    refine wpAnyH_ready (rs := [4]) (by kernel_rfl) (by simp) ?_
    refine AllReadyH.cons rfl (fun K hK => ?_) ?_
    · go_simp
      go_at_call 29
      refine Calls.mono (ceil_r (L := 1048576) (RA.out.step st.out.1) (by omega) (by omega)) ?_
      rintro e wx ⟨v9, rfl, hq, bx⟩
      obtain ⟨s3, A3, n3, c3, rfl, tx⟩ := hq.parts
      clear hq
      try dsimp only
      have st2 := Sg.call (G := fun W => Zi W (zv s3 (.slice A3 n3 c3)) (-((-r).floor)) (1048576 + 1)) st.out bx (Firm2.and (Firm2.and Firm2.yes (Firm2.zi _ _ _)) (Firm2.rc _ _ _)) tx
      have hSt := hide st2
      refine hK.out _ _ st2.1 (fun hHeld => ?_)
      clear hK K st2
      (try simp only [Act.put, List.setIfInBounds_toArray, List.set_cons_zero, List.set_cons_succ])
      exact Hs311.out _ _ ⟨s1, A1, n1, c1, s2, A2, n2, c2, D2, m2, d2, s3, A3, n3, c3, g0, g1, rfl, hSt.out⟩
    exact AllReadyH.nil
  refine wpAnyH_with 5 #[true, true, true, true, false, false, true, false, false, false] (fun a W => ∃ (s1 : Bool) (A1 : Option Addr) (n1 c1 : Nat) (s2 : Bool) (A2 : Option Addr) (n2 c2 : Nat) (D2 : Option Addr) (m2 d2 : Nat) (g0 : Nat), a = ⟨#[rv s (.slice A n c) (.slice D m d), .pointer (some ⟨w.heap.size, 0, none⟩), .bool false, .pointer (some ⟨g0, 0, none⟩), undef, .bool true, .bool false, rv s (.slice A n c) (.slice D m d), zv s1 (.slice A1 n1 c1), rv s2 (.slice A2 n2 c2) (.slice D2 m2 d2), rv s (.slice A n c) (.slice D m d), undef, undef, undef, undef, undef, undef, undef, undef, undef, undef, undef, undef, undef, undef, undef, undef, undef, undef, undef, undef, undef, undef, undef, undef, undef, undef, undef, undef, undef, undef, undef, undef, undef, undef, undef, undef, undef, undef, undef, undef, undef, undef], []⟩ ∧ Sg w1.drew.heap.size w1.drew W [rblk, rblk] [some g0, none] (fun W => ((True ∧ Zi W (zv s1 (.slice A1 n1 c1)) (r.floor) (1048576 + 1)) ∧ Rc W (rv s2 (.slice A2 n2 c2) (.slice D2 m2 d2)) (((r.floor : Int) : Rat)) (1048576 + 1)))) ?_ (fun Hs210 => ?_)
  · rintro a W ⟨s1, A1, n1, c1, s2, A2, n2, c2, D2, m2, d2, g0, rfl, st0⟩
    have hHeld := st0.1
    have st := hide st0
    clear st0
    refine wpAnyH_ready (rs := [4, 7]) (by kernel_rfl) (by simp) ?_
    refine AllReadyH.cons rfl (fun K hK => ?_) ?_
    · go_simp
      go_at_call 29
      refine Calls.mono (ceil_r (L := 1048576) (RA.out.step st.out.1) (by omega) (by omega)) ?_
      rintro e wx ⟨v9, rfl, hq, bx⟩
      obtain ⟨s3, A3, n3, c3, rfl, tx⟩ := hq.parts
      clear hq
      try dsimp only
      have st2 := Sg.call (G := fun W => Zi W (zv s3 (.slice A3 n3 c3)) (-((-r).floor)) (1048576 + 1)) st.out bx (Firm2.and (Firm2.and Firm2.yes (Firm2.zi _ _ _)) (Firm2.rc _ _ _)) tx
      have hSt := hide st2
      refine hK.out _ _ st2.1 (fun hHeld => ?_)
      clear hK K st2
      (try simp only [Act.put, List.setIfInBounds_toArray, List.set_cons_zero, List.set_cons_succ])
      exact Hs310.out _ _ ⟨s1, A1, n1, c1, s2, A2, n2, c2, D2, m2, d2, s3, A3, n3, c3, g0, rfl, hSt.out⟩
    refine AllReadyH.cons rfl (fun K hK => ?_) ?_
    · go_simp
      have st2 := Sg.make st.out (Firm2.and (Firm2.and Firm2.yes (Firm2.zi _ _ _)) (Firm2.rc _ _ _)) 1 _ rfl (by simp)
      refine hK.out _ _ st2.1 (fun hHeld => ?_)
      (try simp only [Act.put, List.setIfInBounds_toArray, List.set_cons_zero, List.set_cons_succ])
      exact Hs211.out _ _ ⟨s1, A1, n1, c1, s2, A2, n2, c2, D2, m2, d2, g0, W.heap.size, rfl, st2⟩
    exact AllReadyH.nil
  refine wpAnyH_with 5 #[true, true, true, true, false, false, false, true, false, false] (fun a W => ∃ (s1 : Bool) (A1 : Option Addr) (n1 c1 : Nat) (s2 : Bool) (A2 : Option Addr) (n2 c2 : Nat) (D2 : Option Addr) (m2 d2 : Nat) (g1 : Nat), a = ⟨#[rv s (.slice A n c) (.slice D m d), .pointer (some ⟨w.heap.size, 0, none⟩), .bool false, undef, .pointer (some ⟨g1, 0, none⟩), .bool true, .bool false, rv s (.slice A n c) (.slice D m d), zv s1 (.slice A1 n1 c1), rv s2 (.slice A2 n2 c2) (.slice D2 m2 d2), rv s (.slice A n c) (.slice D m d), undef, undef, undef, undef, undef, undef, undef, undef, undef, undef, undef, undef, undef, undef, undef, undef, undef, undef, undef, undef, undef, undef, undef, undef, undef, undef, undef, undef, undef, undef, undef, undef, undef, undef, undef, undef, undef, undef, undef, undef, undef, undef], []⟩ ∧ Sg w1.drew.heap.size w1.drew W [rblk, rblk] [none, some g1] (fun W => ((True ∧ Zi W (zv s1 (.slice A1 n1 c1)) (r.floor) (1048576 + 1)) ∧ Rc W (rv s2 (.slice A2 n2 c2) (.slice D2 m2 d2)) (((r.floor : Int) : Rat)) (1048576 + 1)))) ?_ (fun Hs201 => ?_)
  · rintro a W ⟨s1, A1, n1, c1, s2, A2, n2, c2, D2, m2, d2, g1, rfl, st0⟩
    have hHeld := st0.1
    have st := hide st0
    clear st0
    refine wpAnyH_ready (rs := [4, 6]) (by kernel_rfl) (by simp) ?_
    refine AllReadyH.cons rfl (fun K hK => ?_) ?_
    · go_simp
      go_at_call 29
      refine Calls.mono (ceil_r (L := 1048576) (RA.out.step st.out.1) (by omega) (by omega)) ?_
      rintro e wx ⟨v9, rfl, hq, bx⟩
      obtain ⟨s3, A3, n3, c3, rfl, tx⟩ := hq.parts
      clear hq
      try dsimp only
      have st2 := Sg.call (G := fun W => Zi W (zv s3 (.slice A3 n3 c3)) (-((-r).floor)) (1048576 + 1)) st.out bx (Firm2.and (Firm2.and Firm2.yes (Firm2.zi _ _ _)) (Firm2.rc _ _ _)) tx
      have hSt := hide st2
      refine hK.out _ _ st2.1 (fun hHeld => ?_)
      clear hK K st2
      (try simp only [Act.put, List.setIfInBounds_toArray, List.set_cons_zero, List.set_cons_succ])
      exact Hs301.out _ _ ⟨s1, A1, n1, c1, s2, A2, n2, c2, D2, m2, d2, s3, A3, n3, c3, g1, rfl, hSt.out⟩
    refine AllReadyH.cons rfl (fun K hK => ?_) ?_
    · go_simp
      have st2 := Sg.make st.out (Firm2.and (Firm2.and Firm2.yes (Firm2.zi _ _ _)) (Firm2.rc _ _ _)) 0 _ rfl (by simp)
      refine hK.out _ _ st2.1 (fun hHeld => ?_)
      (try simp only [Act.put, List.setIfInBounds_toArray, List.set_cons_zero, List.set_cons_succ])
      exact Hs211.out _ _ ⟨s1, A1, n1, c1, s2, A2, n2, c2, D2, m2, d2, W.heap.size, g1, rfl, st2⟩
    exact AllReadyH.nil
  refine wpAnyH_with 6 #[true, true, true, true, false, false, false, false, false, false] (fun a W => ∃ (s1 : Bool) (A1 : Option Addr) (n1 c1 : Nat) (s2 : Bool) (A2 : Option Addr) (n2 c2 : Nat) (D2 : Option Addr) (m2 d2 : Nat), a = ⟨#[rv s (.slice A n c) (.slice D m d), .pointer (some ⟨w.heap.size, 0, none⟩), .bool false, undef, undef, .bool true, .bool false, rv s (.slice A n c) (.slice D m d), zv s1 (.slice A1 n1 c1), rv s2 (.slice A2 n2 c2) (.slice D2 m2 d2), rv s (.slice A n c) (.slice D m d), undef, undef, undef, undef, undef, undef, undef, undef, undef, undef, undef, undef, undef, undef, undef, undef, undef, undef, undef, undef, undef, undef, undef, undef, undef, undef, undef, undef, undef, undef, undef, undef, undef, undef, undef, undef, undef, undef, undef, undef, undef, undef], []⟩ ∧ Sg w1.drew.heap.size w1.drew W [rblk, rblk] [none, none] (fun W => ((True ∧ Zi W (zv s1 (.slice A1 n1 c1)) (r.floor) (1048576 + 1)) ∧ Rc W (rv s2 (.slice A2 n2 c2) (.slice D2 m2 d2)) (((r.floor : Int) : Rat)) (1048576 + 1)))) ?_ (fun Hs200 => ?_)
  · rintro a W ⟨s1, A1, n1, c1, s2, A2, n2, c2, D2, m2, d2, rfl, st0⟩
    have hHeld := st0.1
    have st := hide st0
    clear st0
    refine wpAnyH_ready (rs := [4, 6, 7]) (by kernel_rfl) (by simp) ?_
    refine AllReadyH.cons rfl (fun K hK => ?_) ?_
    · go_simp
      go_at_call 29
      refine Calls.mono (ceil_r (L := 1048576) (RA.out.step st.out.1) (by omega) (by omega)) ?_
      rintro e wx ⟨v9, rfl, hq, bx⟩
      obtain ⟨s3, A3, n3, c3, rfl, tx⟩ := hq.parts
      clear hq
      try dsimp only
      have st2 := Sg.call (G := fun W => Zi W (zv s3 (.slice A3 n3 c3)) (-((-r).floor)) (1048576 + 1)) st.out bx (Firm2.and (Firm2.and Firm2.yes (Firm2.zi _ _ _)) (Firm2.rc _ _ _)) tx
      have hSt := hide st2
      refine hK.out _ _ st2.1 (fun hHeld => ?_)
      clear hK K st2
      (try simp only [Act.put, List.setIfInBounds_toArray, List.set_cons_zero, List.set_cons_succ])
      exact Hs300.out _ _ ⟨s1, A1, n1, c1, s2, A2, n2, c2, D2, m2, d2, s3, A3, n3, c3, rfl, hSt.out⟩
    refine AllReadyH.cons rfl (fun K hK => ?_) ?_
    · go_simp
      have st2 := Sg.make st.out (Firm2.and (Firm2.and Firm2.yes (Firm2.zi _ _ _)) (Firm2.rc _ _ _)) 0 _ rfl (by simp)
      refine hK.out _ _ st2.1 (fun hHeld => ?_)
      (try simp only [Act.put, List.setIfInBounds_toArray, List.set_cons_zero, List.set_cons_succ])
      exact Hs210.out _ _ ⟨s1, A1, n1, c1, s2, A2, n2, c2, D2, m2, d2, W.heap.size, rfl, st2⟩
    refine AllReadyH.cons rfl (fun K hK => ?_) ?_
    · go_simp
      have st2 := Sg.make st.out (Firm2.and (Firm2.and Firm2.yes (Firm2.zi _ _ _)) (Firm2.rc _ _ _)) 1 _ rfl (by simp)
      refine hK.out _ _ st2.1 (fun hHeld => ?_)
      (try simp only [Act.put, List.setIfInBounds_toArray, List.set_cons_zero, List.set_cons_succ])
      exact Hs201.out _ _ ⟨s1, A1, n1, c1, s2, A2, n2, c2, D2, m2, d2, W.heap.size, rfl, st2⟩
    exact AllReadyH.nil
  refine wpAnyH_with 5 #[true, true, false, true, false, false, true, true, false, false] (fun a W => ∃ (s1 : Bool) (A1 : Option Addr) (n1 c1 : Nat) (g0 : Nat) (g1 : Nat), a = ⟨#[rv s (.slice A n c) (.slice D m d), .pointer (some ⟨w.heap.size, 0, none⟩), .bool false, .pointer (some ⟨g0, 0, none⟩), .pointer (some ⟨g1, 0, none⟩), .bool true, .bool false, rv s (.slice A n c) (.slice D m d), zv s1 (.slice A1 n1 c1), undef, rv s (.slice A n c) (.slice D m d), undef, undef, undef, undef, undef, undef, undef, undef, undef, undef, undef, undef, undef, undef, undef, undef, undef, undef, undef, undef, undef, undef, undef, undef, undef, undef, undef, undef, undef, undef, undef, undef, undef, undef, undef, undef, undef, undef, undef, undef, undef, undef], []⟩ ∧ Sg w1.drew.heap.size w1.drew W [rblk, rblk] [some g0, some g1] (fun W => (True ∧ Zi W (zv s1 (.slice A1 n1 c1)) (r.floor) (1048576 + 1)))) ?_ (fun Hs111 => ?_)
  · rintro a W ⟨s1, A1, n1, c1, g0, g1, rfl, st0⟩
    have hHeld := st0.1
    have st := hide st0
    clear st0
    refine wpAnyH_ready (rs := [2]) (by kernel_rfl) (by simp) ?_
    refine AllReadyH.cons rfl (fun K hK => ?_) ?_
    · go_simp
      go_at_call 14
      refine Calls.mono (ofint_r (L := 1048576 + 1) (Zi.za st.out.2.2.1.2) (by omega) (by omega)) ?_
      rintro e wx ⟨v9, rfl, hq, bx⟩
      obtain ⟨s2, A2, n2, c2, D2, m2, d2, rfl, tx⟩ := hq.parts
      clear hq
      try dsimp only
      have st2 := Sg.call (G := fun W => Rc W (rv s2 (.slice A2 n2 c2) (.slice D2 m2 d2)) (((r.floor : Int) : Rat)) (1048576 + 1)) st.out bx (Firm2.and Firm2.yes (Firm2.zi _ _ _)) tx
      have hSt := hide st2
      refine hK.out _ _ st2.1 (fun hHeld => ?_)
      clear hK K st2
      (try simp only [Act.put, List.setIfInBounds_toArray, List.set_cons_zero, List.set_cons_succ])
      exact Hs211.out _ _ ⟨s1, A1, n1, c1, s2, A2, n2, c2, D2, m2, d2, g0, g1, rfl, hSt.out⟩
    exact AllReadyH.nil
  refine wpAnyH_with 6 #[true, true, false, true, false, false, true, false, false, false] (fun a W => ∃ (s1 : Bool) (A1 : Option Addr) (n1 c1 : Nat) (g0 : Nat), a = ⟨#[rv s (.slice A n c) (.slice D m d), .pointer (some ⟨w.heap.size, 0, none⟩), .bool false, .pointer (some ⟨g0, 0, none⟩), undef, .bool true, .bool false, rv s (.slice A n c) (.slice D m d), zv s1 (.slice A1 n1 c1), undef, rv s (.slice A n c) (.slice D m d), undef, undef, undef, undef, undef, undef, undef, undef, undef, undef, undef, undef, undef, undef, undef, undef, undef, undef, undef, undef, undef, undef, undef, undef, undef, undef, undef, undef, undef, undef, undef, undef, undef, undef, undef, undef, undef, undef, undef, undef, undef, undef], []⟩ ∧ Sg w1.drew.heap.size w1.drew W [rblk, rblk] [some g0, none] (fun W => (True ∧ Zi W (zv s1 (.slice A1 n1 c1)) (r.floor) (1048576 + 1)))) ?_ (fun Hs110 => ?_)
  · rintro a W ⟨s1, A1, n1, c1, g0, rfl, st0⟩
    have hHeld := st0.1
    have st := hide st0
    clear st0
    refine wpAnyH_ready (rs := [2, 7]) (by kernel_rfl) (by simp) ?_
    refine AllReadyH.cons rfl (fun K hK => ?_) ?_
    · go_simp
      go_at_call 14
      refine Calls.mono (ofint_r (L := 1048576 + 1) (Zi.za st.out.2.2.1.2) (by omega) (by omega)) ?_
      rintro e wx ⟨v9, rfl, hq, bx⟩
      obtain ⟨s2, A2, n2, c2, D2, m2, d2, rfl, tx⟩ := hq.parts
      clear hq
      try dsimp only
      have st2 := Sg.call (G := fun W => Rc W (rv s2 (.slice A2 n2 c2) (.slice D2 m2 d2)) (((r.floor : Int) : Rat)) (1048576 + 1)) st.out bx (Firm2.and Firm2.yes (Firm2.zi _ _ _)) tx
      have hSt := hide st2
      refine hK.out _ _ st2.1 (fun hHeld => ?_)
      clear hK K st2
      (try simp only [Act.put, List.setIfInBounds_toArray, List.set_cons_zero, List.set_cons_succ])
      exact Hs210.out _ _ ⟨s1, A1, n1, c1, s2, A2, n2, c2, D2, m2, d2, g0, rfl, hSt.out⟩
    refine AllReadyH.cons rfl (fun K hK => ?_) ?_
    · go_simp
      have st2 := Sg.make st.out (Firm2.and Firm2.yes (Firm2.zi _ _ _)) 1 _ rfl (by simp)
      refine hK.out _ _ st2.1 (fun hHeld => ?_)
      (try simp only [Act.put, List.setIfInBounds_toArray, List.set_cons_zero, List.set_cons_succ])
      exact Hs111.out _ _ ⟨s1, A1, n1, c1, g0, W.heap.size, rfl, st2⟩
    exact AllReadyH.nil
  refine wpAnyH_with 6 #[true, true, false, true, false, false, false, true, false, false] (fun a W => ∃ (s1 : Bool) (A1 : Option Addr) (n1 c1 : Nat) (g1 : Nat), a = ⟨#[rv s (.slice A n c) (.slice D m d), .pointer (some ⟨w.heap.size, 0, none⟩), .bool false, undef, .pointer (some ⟨g1, 0, none⟩), .bool true, .bool false, rv s (.slice A n c) (.slice D m d), zv s1 (.slice A1 n1 c1), undef, rv s (.slice A n c) (.slice D m d), undef, undef, undef, undef, undef, undef, undef, undef, undef, undef, undef, undef, undef, undef, undef, undef, undef, undef, undef, undef, undef, undef, undef, undef, undef, undef, undef, undef, undef, undef, undef, undef, undef, undef, undef, undef, undef, undef, undef, undef, undef, undef], []⟩ ∧ Sg w1.drew.heap.size w1.drew W [rblk, rblk] [none, some g1] (fun W => (True ∧ Zi W (zv s1 (.slice A1 n1 c1)) (r.floor) (1048576 + 1)))) ?_ (fun Hs101 => ?_)
  · rintro a W ⟨s1, A1, n1, c1, g1, rfl, st0⟩
    have hHeld := st0.1
    have st := hide st0
    clear st0
    refine wpAnyH_ready (rs := [2, 6]) (by kernel_rfl) (by simp) ?_
    refine AllReadyH.cons rfl (fun K hK => ?_) ?_
    · go_simp
      go_at_call 14
      refine Calls.mono (ofint_r (L := 1048576 + 1) (Zi.za st.out.2.2.1.2) (by omega) (by omega)) ?_
      rintro e wx ⟨v9, rfl, hq, bx⟩
      obtain ⟨s2, A2, n2, c2, D2, m2, d2, rfl, tx⟩ := hq.parts
      clear hq
      try dsimp only
      have st2 := Sg.call (G := fun W => Rc W (rv s2 (.slice A2 n2 c2) (.slice D2 m2 d2)) (((r.floor : Int) : Rat)) (1048576 + 1)) st.out bx (Firm2.and Firm2.yes (Firm2.zi _ _ _)) tx
      have hSt := hide st2
      refine hK.out _ _ st2.1 (fun hHeld => ?_)
      clear hK K st2
      (try simp only [Act.put, List.setIfInBounds_toArray, List.set_cons_zero, List.set_cons_succ])
      exact Hs201.out _ _ ⟨s1, A1, n1, c1, s2, A2, n2, c2, D2, m2, d2, g1, rfl, hSt.out⟩
    refine AllReadyH.cons rfl (fun K hK => ?_) ?_
    · go_simp
      have st2 := Sg.make st.out (Firm2.and Firm2.yes (Firm2.zi _ _ _)) 0 _ rfl (by simp)
      refine hK.out _ _ st2.1 (fun hHeld => ?_)
      (try simp only [Act.put, List.setIfInBounds_toArray, List.set_cons_zero, List.set_cons_succ])
      exact Hs111.out _ _ ⟨s1, A1, n1, c1, W.heap.size, g1, rfl, st2⟩
    exact AllReadyH.nil
  refine wpAnyH_with 7 #[true, true, false, true, false, false, false, false, false, false] (fun a W => ∃ (s1 : Bool) (A1 : Option Addr) (n1 c1 : Nat), a = ⟨#[rv s (.slice A n c) (.slice D m d), .pointer (some ⟨w.heap.size, 0, none⟩), .bool false, undef, undef, .bool true, .bool false, rv s (.slice A n c) (.slice D m d), zv s1 (.slice A1 n1 c1), undef, rv s (.slice A n c) (.slice D m d), undef, undef, undef, undef, undef, undef, undef, undef, undef, undef, undef, undef, undef, undef, undef, undef, undef, undef, undef, undef, undef, undef, undef, undef, undef, undef, undef, undef, undef, undef, undef, undef, undef, undef, undef, undef, undef, undef, undef, undef, undef, undef], []⟩ ∧ Sg w1.drew.heap.size w1.drew W [rblk, rblk] [none, none] (fun W => (True ∧ Zi W (zv s1 (.slice A1 n1 c1)) (r.floor) (1048576 + 1)))) ?_ (fun Hs100 => ?_)
  · rintro a W ⟨s1, A1, n1, c1, rfl, st0⟩
    have hHeld := st0.1
    have st := hide st0
    clear st0
    refine wpAnyH_ready (rs := [2, 6, 7]) (by kernel_rfl) (by simp) ?_
    refine AllReadyH.cons rfl (fun K hK => ?_) ?_
    · go_simp
      go_at_call 14
      refine Calls.mono (ofint_r (L := 1048576 + 1) (Zi.za st.out.2.2.1.2) (by omega) (by omega)) ?_
      rintro e wx ⟨v9, rfl, hq, bx⟩
      obtain ⟨s2, A2, n2, c2, D2, m2, d2, rfl, tx⟩ := hq.parts
      clear hq
      try dsimp only
      have st2 := Sg.call (G := fun W => Rc W (rv s2 (.slice A2 n2 c2) (.slice D2 m2 d2)) (((r.floor : Int) : Rat)) (1048576 + 1)) st.out bx (Firm2.and Firm2.yes (Firm2.zi _ _ _)) tx
      have hSt := hide st2
      refine hK.out _ _ st2.1 (fun hHeld => ?_)
      clear hK K st2
      (try simp only [Act.put, List.setIfInBounds_toArray, List.set_cons_zero, List.set_cons_succ])
      exact Hs200.out _ _ ⟨s1, A1, n1, c1, s2, A2, n2, c2, D2, m2, d2, rfl, hSt.out⟩
    refine AllReadyH.cons rfl (fun K hK => ?_) ?_
    · go_simp
      have st2 := Sg.make st.out (Firm2.and Firm2.yes (Firm2.zi _ _ _)) 0 _ rfl (by simp)
      refine hK.out _ _ st2.1 (fun hHeld => ?_)
      (try simp only [Act.put, List.setIfInBounds_toArray, List.set_cons_zero, List.set_cons_succ])
      exact Hs110.out _ _ ⟨s1, A1, n1, c1, W.heap.size, rfl, st2⟩
    refine AllReadyH.cons rfl (fun K hK => ?_) ?_
    · go_simp
      have st2 := Sg.make st.out (Firm2.and Firm2.yes (Firm2.zi _ _ _)) 1 _ rfl (by simp)
      refine hK.out _ _ st2.1 (fun hHeld => ?_)
      (try simp only [Act.put, List.setIfInBounds_toArray, List.set_cons_zero, List.set_cons_succ])
      exact Hs101.out _ _ ⟨s1, A1, n1, c1, W.heap.size, rfl, st2⟩
    exact AllReadyH.nil
  refine wpAnyH_with 6 #[true, false, false, true, false, false, true, true, false, false] (fun a W => ∃ (g0 : Nat) (g1 : Nat), a = ⟨#[rv s (.slice A n c) (.slice D m d), .pointer (some ⟨w.heap.size, 0, none⟩), .bool false, .pointer (some ⟨g0, 0, none⟩), .pointer (some ⟨g1, 0, none⟩), .bool true, .bool false, rv s (.slice A n c) (.slice D m d), undef, undef, rv s (.slice A n c) (.slice D m d), undef, undef, undef, undef, undef, undef, undef, undef, undef, undef, undef, undef, undef, undef, undef, undef, undef, undef, undef, undef, undef, undef, undef, undef, undef, undef, undef, undef, undef, undef, undef, undef, undef, undef, undef, undef, undef, undef, undef, undef, undef, undef], []⟩ ∧ Sg w1.drew.heap.size w1.drew W [rblk, rblk] [some g0, some g1] (fun W => True)) ?_ (fun Hs011 => ?_)
  · rintro a W ⟨g0, g1, rfl, st0⟩
    have hHeld := st0.1
    have st := hide st0
    clear st0
    refine wpAnyH_ready (rs := [1]) (by kernel_rfl) (by simp) ?_
    refine AllReadyH.cons rfl (fun K hK => ?_) ?_
    · go_simp
      go_at_call 28
      refine Calls.mono (floor_r (L := 1048576) (RA.out.step st.out.1) (by omega) (by omega)) ?_
      rintro e wx ⟨v9, rfl, hq, bx⟩
      obtain ⟨s1, A1, n1, c1, rfl, tx⟩ := hq.parts
      clear hq
      try dsimp only
      have st2 := Sg.call (G := fun W => Zi W (zv s1 (.slice A1 n1 c1)) (r.floor) (1048576 + 1)) st.out bx Firm2.yes tx
      have hSt := hide st2
      refine hK.out _ _ st2.1 (fun hHeld => ?_)
      clear hK K st2
      (try simp only [Act.put, List.setIfInBounds_toArray, List.set_cons_zero, List.set_cons_succ])
      exact Hs111.out _ _ ⟨s1, A1, n1, c1, g0, g1, rfl, hSt.out⟩
    exact AllReadyH.nil
  refine wpAnyH_with 7 #[true, false, false, true, false, false, true, false, false, false] (fun a W => ∃ (g0 : Nat), a = ⟨#[rv s (.slice A n c) (.slice D m d), .pointer (some ⟨w.heap.size, 0, none⟩), .bool false, .pointer (some ⟨g0, 0, none⟩), undef, .bool true, .bool false, rv s (.slice A n c) (.slice D m d), undef, undef, rv s (.slice A n c) (.slice D m d), undef, undef, undef, undef, undef, undef, undef, undef, undef, undef, undef, undef, undef, undef, undef, undef, undef, undef, undef, undef, undef, undef, undef, undef, undef, undef, undef, undef, undef, undef, undef, undef, undef, undef, undef, undef, undef, undef, undef, undef, undef, undef], []⟩ ∧ Sg w1.drew.heap.size w1.drew W [rblk, rblk] [some g0, none] (fun W => True)) ?_ (fun Hs010 => ?_)
  · rintro a W ⟨g0, rfl, st0⟩
    have hHeld := st0.1
    have st := hide st0
    clear st0
    refine wpAnyH_ready (rs := [1, 7]) (by kernel_rfl) (by simp) ?_
    refine AllReadyH.cons rfl (fun K hK => ?_) ?_
    · go_simp
      go_at_call 28
      refine Calls.mono (floor_r (L := 1048576) (RA.out.step st.out.1) (by omega) (by omega)) ?_
      rintro e wx ⟨v9, rfl, hq, bx⟩
      obtain ⟨s1, A1, n1, c1, rfl, tx⟩ := hq.parts
      clear hq
      try dsimp only
      have st2 := Sg.call (G := fun W => Zi W (zv s1 (.slice A1 n1 c1)) (r.floor) (1048576 + 1)) st.out bx Firm2.yes tx
      have hSt := hide st2
      refine hK.out _ _ st2.1 (fun hHeld => ?_)
      clear hK K st2
      (try simp only [Act.put, List.setIfInBounds_toArray, List.set_cons_zero, List.set_cons_succ])
      exact Hs110.out _ _ ⟨s1, A1, n1, c1, g0, rfl, hSt.out⟩
    refine AllReadyH.cons rfl (fun K hK => ?_) ?_
    · go_simp
      have st2 := Sg.make st.out Firm2.yes 1 _ rfl (by simp)
      refine hK.out _ _ st2.1 (fun hHeld => ?_)
      (try simp only [Act.put, List.setIfInBounds_toArray, List.set_cons_zero, List.set_cons_succ])
      exact Hs011.out _ _ ⟨g0, W.heap.size, rfl, st2⟩
    exact AllReadyH.nil
  refine wpAnyH_with 7 #[true, false, false, true, false, false, false, true, false, false] (fun a W => ∃ (g1 : Nat), a = ⟨#[rv s (.slice A n c) (.slice D m d), .pointer (some ⟨w.heap.size, 0, none⟩), .bool false, undef, .pointer (some ⟨g1, 0, none⟩), .bool true, .bool false, rv s (.slice A n c) (.slice D m d), undef, undef, rv s (.slice A n c) (.slice D m d), undef, undef, undef, undef, undef, undef, undef, undef, undef, undef, undef, undef, undef, undef, undef, undef, undef, undef, undef, undef, undef, undef, undef, undef, undef, undef, undef, undef, undef, undef, undef, undef, undef, undef, undef, undef, undef, undef, undef, undef, undef, undef], []⟩ ∧ Sg w1.drew.heap.size w1.drew W [rblk, rblk] [none, some g1] (fun W => True)) ?_ (fun Hs001 => ?_)
  · rintro a W ⟨g1, rfl, st0⟩
    have hHeld := st0.1
    have st := hide st0
    clear st0
    refine wpAnyH_ready (rs := [1, 6]) (by kernel_rfl) (by simp) ?_
    refine AllReadyH.cons rfl (fun K hK => ?_) ?_
    · go_simp
      go_at_call 28
      refine Calls.mono (floor_r (L := 1048576) (RA.out.step st.out.1) (by omega) (by omega)) ?_
      rintro e wx ⟨v9, rfl, hq, bx⟩
      obtain ⟨s1, A1, n1, c1, rfl, tx⟩ := hq.parts
      clear hq
      try dsimp only
      have st2 := Sg.call (G := fun W => Zi W (zv s1 (.slice A1 n1 c1)) (r.floor) (1048576 + 1)) st.out bx Firm2.yes tx
      have hSt := hide st2
      refine hK.out _ _ st2.1 (fun hHeld => ?_)
      clear hK K st2
      (try simp only [Act.put, List.setIfInBounds_toArray, List.set_cons_zero, List.set_cons_succ])
      exact Hs101.out _ _ ⟨s1, A1, n1, c1, g1, rfl, hSt.out⟩
    refine AllReadyH.cons rfl (fun K hK => ?_) ?_
    · go_simp
      have st2 := Sg.make st.out Firm2.yes 0 _ rfl (by simp)
      refine hK.out _ _ st2.1 (fun hHeld => ?_)
      (try simp only [Act.put, List.setIfInBounds_toArray, List.set_cons_zero, List.set_cons_succ])
      exact Hs011.out _ _ ⟨W.heap.size, g1, rfl, st2⟩
    exact AllReadyH.nil
  refine wpAnyH_take (i := 0) (v := ?_) rfl (by kernel_rfl) (by kernel_rfl) (by kernel_rfl) (fun _ _ _ h => h) (Or.inl ⟨?_, ?_⟩) (by assumption) ?_
  rotate_left
  · rfl
  · (intro w hSw; have e0 := cell_keep P.out.1 hSw; have e1 := cell_keep P.out.2.1 hSw; have e2 := cell_keep P.out.2.2 hSw; go_simp; try with_reducible rfl)
  (try simp only [Act.put, List.setIfInBounds_toArray, List.set_cons_zero, List.set_cons_succ])
  refine wpAnyH_take (i := 3) (v := ?_) rfl (by kernel_rfl) (by kernel_rfl) (by kernel_rfl) (fun _ _ _ h => h) (Or.inl ⟨?_, ?_⟩) (by assumption) ?_
  rotate_left
  · rfl
  · (intro w hSw; have e0 := cell_keep P.out.1 hSw; have e1 := cell_keep P.out.2.1 hSw; have e2 := cell_keep P.out.2.2 hSw; go_simp; try with_reducible rfl)
  (try simp only [Act.put, List.setIfInBounds_toArray, List.set_cons_zero, List.set_cons_succ])
  refine wpAnyH_with 8 #[true, false, false, true, false, false, false, false, false, false] (fun a W => a = ⟨#[rv s (.slice A n c) (.slice D m d), .pointer (some ⟨w.heap.size, 0, none⟩), .bool false, undef, undef, .bool true, .bool false, rv s (.slice A n c) (.slice D m d), undef, undef, rv s (.slice A n c) (.slice D m d), undef, undef, undef, undef, undef, undef, undef, undef, undef, undef, undef, undef, undef, undef, undef, undef, undef, undef, undef, undef, undef, undef, undef, undef, undef, undef, undef, undef, undef, undef, undef, undef, undef, undef, undef, undef, undef, undef, undef, undef, undef, undef], []⟩ ∧ Sg w1.drew.heap.size w1.drew W [rblk, rblk] [none, none] (fun W => True)) ?_ (fun Hs => Hs.out _ _ ⟨rfl, Sg.start _ _ 2⟩)
  rintro a W ⟨rfl, st0⟩
  have hHeld := st0.1
  have st := hide st0
  clear st0
  refine wpAnyH_ready (rs := [1, 6, 7]) (by kernel_rfl) (by simp) ?_
  refine AllReadyH.cons rfl (fun K hK => ?_) ?_
  · go_simp
    go_at_call 28
    refine Calls.mono (floor_r (L := 1048576) (RA.out.step st.out.1) (by omega) (by omega)) ?_
    rintro e wx ⟨v9, rfl, hq, bx⟩
    obtain ⟨s1, A1, n1, c1, rfl, tx⟩ := hq.parts
    clear hq
    try dsimp only
    have st2 := Sg.call (G := fun W => Zi W (zv s1 (.slice A1 n1 c1)) (r.floor) (1048576 + 1)) st.out bx Firm2.yes tx
    have hSt := hide st2
    refine hK.out _ _ st2.1 (fun hHeld => ?_)
    clear hK K st2
    (try simp only [Act.put, List.setIfInBounds_toArray, List.set_cons_zero, List.set_cons_succ])
    exact Hs100.out _ _ ⟨s1, A1, n1, c1, rfl, hSt.out⟩
  refine AllReadyH.cons rfl (fun K hK => ?_) ?_
  · go_simp
    have st2 := Sg.make st.out Firm2.yes 0 _ rfl (by simp)
    refine hK.out _ _ st2.1 (fun hHeld => ?_)
    (try simp only [Act.put, List.setIfInBounds_toArray, List.set_cons_zero, List.set_cons_succ])
    exact Hs010.out _ _ ⟨W.heap.size, rfl, st2⟩
  refine AllReadyH.cons rfl (fun K hK => ?_) ?_
  · go_simp
    have st2 := Sg.make st.out Firm2.yes 1 _ rfl (by simp)
    refine hK.out _ _ st2.1 (fun hHeld => ?_)
    (try simp only [Act.put, List.setIfInBounds_toArray, List.set_cons_zero, List.set_cons_succ])
    exact Hs001.out _ _ ⟨W.heap.size, rfl, st2⟩
  exact AllReadyH.nil
end Go.Proofs.Ytpcchagnbkohnaa
