/-
  The walk of RatRounds: true.
-/
import Derived.Test.YtpcchagnbkohnaaRatQ6
import Derived.Test.YtpcchagnbkohnaaRatQuotW


namespace Go.Proofs.Ytpcchagnbkohnaa
open Go.RowKit Go.Proofs.Ytpcchagnbkohnaa.Num
set_option linter.unusedVariables false
set_option linter.unusedSimpArgs false
set_option maxRecDepth 100000

theorem Rf.more {w : World} {v : Value} {r : Rat} {L M : Nat} (h : Rf w v r L) (hL : L ≤ M) : Rf w v r M := by
  obtain ⟨u, t, e, h1, h2⟩ := h
  exact ⟨u, t, e, h1.more hL, h2.more hL⟩
set_option maxHeartbeats 16000000 in
theorem ratrounds_true (w : World) (s : Bool) (ua ta : Value) (xa ya : Nat) (hua : Nw w ua xa 17592186043904) (hva : Nw w ta ya 17592186043904) :
    Calls Try.prog 5 #[rv s ua ta] w fun e w' => e = .returned (.bool true) ∧ Below w.heap.size w w' := by
  obtain ⟨Aa, na, ca, rfl⟩ := hua.slice
  obtain ⟨Da, ma, da, rfl⟩ := hva.slice
  have ba1 : na ≤ 17592186043904 := by obtain ⟨_, _, _, xs, e, h1, h2, h3, h4, h5, h6⟩ := hua; cases e; exact h6
  have ba2 : ma ≤ 17592186043904 := by obtain ⟨_, _, _, xs, e, h1, h2, h3, h4, h5, h6⟩ := hva; cases e; exact h6
  obtain ⟨xsa, -, hla⟩ := hua.open12
  obtain ⟨ysa, -, hka⟩ := hva.open12
  obtain ⟨b2, y⟩ := fbox1 w s Aa na ca Da ma da
  have P := hide y
  have B := hide b2
  have HL : Hid (¬ (12 < na + ma ∨ 12 < na + ma) → Rl (w.alloc (rbox s (.slice Aa na ca) (.slice Da ma da))) (rv s (.slice Aa na ca) (.slice Da ma da)) s xsa ysa 12) := hide (fun h => ⟨_, _, rfl, (hla (by omega)).step b2, (hka (by omega)).step b2⟩)
  have GR := hide (fun W => rgreat_any (w := W) (s := s) (t := s) (A := Aa) (D := Da) (F := Aa) (H := Da) (n := na) (c := ca) (m := ma) (d := da) (k := na) (f := ca) (l := ma) (h := da) (by omega) (by omega) (by omega) (by omega))
  clear hua hva hla hka y b2 ba1 ba2
  by_cases hg : 12 < na + ma ∨ 12 < na + ma
  · have HG := hide (decide_eq_true hg)
    clear hg HL
    go_enter Try.func5, Try.ntmps5
    go_wp2_with fail
    refine (rspeaks_true _).mono ?_
    rintro e w1 ⟨rfl, bx⟩
    replace P := hide (P.out.step bx)
    replace B := hide (Below.step B.out B.out.size bx)
    clear bx
    obtain ⟨p0, p1, p2⟩ := P.out
    go_wp2_with fail
    refine (GR.out _).mono ?_
    rw [HG.out]
    rintro e w2 ⟨rfl, bx⟩
    replace B := hide (Below.step B.out B.out.size bx)
    clear GR p0 p1 p2 bx
    go_wp2_with fail
    go_ret
    exact ⟨rfl, B.out⟩
  · have HG := hide (decide_eq_false hg)
    have R := hide (HL.out hg)
    clear hg HL
    obtain ⟨r, hr⟩ : ∃ r, mkRat (zi s (vl Q xsa)) (dn (vl Q ysa)) = r := ⟨_, rfl⟩
    have RAa : Hid (∀ W v, Rl W v s xsa ysa 12 → Ra W v r 12) := hide (fun W v h => by rw [← hr]; exact h.ra)
    clear hr
    go_enter Try.func5, Try.ntmps5
    go_wp2_with fail
    refine (rspeaks_true _).mono ?_
    rintro e w1 ⟨rfl, bx⟩
    replace P := hide (P.out.step bx)
    replace B := hide (Below.step B.out B.out.size bx)
    replace R := hide (R.out.step bx)
    clear bx
    obtain ⟨p0, p1, p2⟩ := P.out
    go_wp2_with fail
    refine (GR.out _).mono ?_
    rw [HG.out]
    rintro e w2 ⟨rfl, bx⟩
    replace B := hide (Below.step B.out B.out.size bx)
    replace R := hide (R.out.step bx)
    replace P := hide (P.out.step bx)
    clear GR p0 p1 p2 bx
    obtain ⟨p0, p1, p2⟩ := P.out
    go_wp2_with fail
    refine (rcopy_l (L := 12) R.out (by omega)).mono ?_
    rintro e w3 ⟨v3, rfl, h3, b⟩
    obtain ⟨Ax, nx, cx, Dx, mx, dx, rfl, -, -, h3⟩ := h3.parts
    obtain ⟨x, y⟩ := fbox1 w3 s Ax nx cx Dx mx dx
    have bx := Below.step1 b x
    have P := hide (And.intro (P.out.step bx) y)
    have R := hide (And.intro (R.out.step bx) (h3.step x))
    have B := hide (Below.step B.out B.out.size bx)
    clear b x y bx h3 p0 p1 p2
    obtain ⟨⟨p0, p1, p2⟩, -⟩ := P.out
    go_wp2_with fail
    generalize (w3.alloc (.cells #[.bool s, .slice Ax nx cx, .slice Dx mx dx] 28)) = w4 at *
    generalize w3.heap.size = gx at *
    refine (rof_r (L := 12) (RAa.out _ _ R.out.1) (by omega) (by omega)).mono ?_
    rintro e w7 ⟨v7, rfl, h7, b⟩
    obtain ⟨sq, Aq, nq, cq, Dq, mq, dq, rfl, h7⟩ := h7.parts
    obtain ⟨x, y⟩ := fqbox1 w7 sq Aq nq cq Dq mq dq
    have dr := Below.drew (Below.refl (w7.alloc (fqbox sq (.slice Aq nq cq) (.slice Dq mq dq))).heap.size (w7.alloc (fqbox sq (.slice Aq nq cq) (.slice Dq mq dq))))
    have bx := Below.step1 (Below.step1 b x) dr
    have P := hide (And.intro (P.out.1.step bx) (And.intro (P.out.2.step bx) (y.step dr)))
    have R := hide (And.intro (R.out.1.step bx) (And.intro (R.out.2.step bx) ((h7.step x).step dr)))
    have B := hide (Below.step B.out B.out.size bx)
    clear b x y bx dr h7 p0 p1 p2
    go_wp2_with fail
    generalize (w7.alloc (.cells #[.bool sq, .slice Aq nq cq, .slice Dq mq dq] 40)) = w8 at *
    generalize w7.heap.size = gq at *
    refine wp_region_held_drew (S := fun W => Below w8.drew.heap.size w8.drew W) (by kernel_rfl) (Below.refl _ _) (fun hHeld => ?_)
    refine wpAnyH_with 3 #[true, true, true, true, true, true, true, true, true, false, false, false] (fun a W => ∃ (s1 : Bool) (A1 : Option Addr) (n1 c1 : Nat) (s2 : Bool) (A2 : Option Addr) (n2 c2 : Nat) (s3 : Bool) (A3 : Option Addr) (n3 c3 : Nat) (D3 : Option Addr) (m3 d3 : Nat) (g0 : Nat) (g1 : Nat) (g2 : Nat), a = ⟨#[rv s (.slice Aa na ca) (.slice Da ma da), .pointer (some ⟨w.heap.size, 0, none⟩), .bool false, .pointer (some ⟨gx, 0, none⟩), .pointer (some ⟨gq, 0, none⟩), .pointer (some ⟨g0, 0, none⟩), .pointer (some ⟨g1, 0, none⟩), .pointer (some ⟨g2, 0, none⟩), undef, .bool true, .bool false, rv s (.slice Aa na ca) (.slice Da ma da), rv s (.slice Aa na ca) (.slice Da ma da), .bool false, rv s (.slice Aa na ca) (.slice Da ma da), rv s (.slice Ax nx cx) (.slice Dx mx dx), rv s (.slice Aa na ca) (.slice Da ma da), rv sq (.slice Aq nq cq) (.slice Dq mq dq), rv s (.slice Ax nx cx) (.slice Dx mx dx), zv s1 (.slice A1 n1 c1), rv s (.slice Ax nx cx) (.slice Dx mx dx), zv s2 (.slice A2 n2 c2), rv s (.slice Ax nx cx) (.slice Dx mx dx), rv s3 (.slice A3 n3 c3) (.slice D3 m3 d3), undef, undef, undef, undef, undef, undef, undef, undef, undef, undef, undef, undef, undef, undef, undef, undef, undef, undef, undef, undef, undef, undef, undef, undef, undef, undef, undef, undef, undef, undef, undef, undef, undef, undef, undef], []⟩ ∧ Sg w8.drew.heap.size w8.drew W [zblk, zblk, rblk] [some g0, some g1, some g2] (fun W => (((True ∧ Zi W (zv s1 (.slice A1 n1 c1)) (r.floor) (12 + 1)) ∧ Zi W (zv s2 (.slice A2 n2 c2)) (-((-r).floor)) (12 + 1)) ∧ Rc W (rv s3 (.slice A3 n3 c3) (.slice D3 m3 d3)) (r - ((r.floor : Int) : Rat)) (12 + 1)))) ?_ (fun Hs3111 => ?_)
    · rintro a W ⟨s1, A1, n1, c1, s2, A2, n2, c2, s3, A3, n3, c3, D3, m3, d3, g0, g1, g2, rfl, st0⟩
      have hHeld := st0.1
      have st := hide st0
      clear st0
      obtain ⟨k0, f0⟩ := Sg.cells st.out 0 g0 #[.bool false, .slice none 0 0] 24 rfl rfl 0
      obtain ⟨k1, f1⟩ := Sg.cells st.out 0 g0 #[.bool false, .slice none 0 0] 24 rfl rfl 1
      simp only [List.getElem?_toArray, List.getElem?_cons_zero, List.getElem?_cons_succ] at k0
      simp only [List.getElem?_toArray, List.getElem?_cons_zero, List.getElem?_cons_succ] at k1
      have st9 := st.out
      have st9 := Sg.put st9 (Firm2.and (Firm2.and (Firm2.and Firm2.yes (Firm2.zi _ _ _)) (Firm2.zi _ _ _)) (Firm2.rc _ _ _)) 0 g0 0 _ 24 (.bool s1) rfl rfl rfl
      have st9 := Sg.put st9 (Firm2.and (Firm2.and (Firm2.and Firm2.yes (Firm2.zi _ _ _)) (Firm2.zi _ _ _)) (Firm2.rc _ _ _)) 0 g0 1 _ 24 (.slice A1 n1 c1) rfl rfl rfl
      have st8 := hide st9
      clear st9
      refine wpAnyH_ready (rs := [9]) (by kernel_rfl) (by simp) ?_
      refine AllReadyH.cons rfl (fun K hK => ?_) ?_
      rotate_left
      · exact AllReadyH.nil
      go_simp
      refine hK.out _ _ st8.out.1 (fun hHeld => ?_)
      clear hK K k0 f0 k1 f1 st
      (try simp only [Act.put, List.setIfInBounds_toArray, List.set_cons_zero, List.set_cons_succ])
      generalize ((W.setCell ⟨g0, 0, none⟩ _).setCell ⟨g0, 1, none⟩ _) = W5 at *
      have st := st8
      clear st8
      obtain ⟨k0, f0⟩ := Sg.cells st.out 1 g1 #[.bool false, .slice none 0 0] 24 rfl rfl 0
      obtain ⟨k1, f1⟩ := Sg.cells st.out 1 g1 #[.bool false, .slice none 0 0] 24 rfl rfl 1
      simp only [List.getElem?_toArray, List.getElem?_cons_zero, List.getElem?_cons_succ] at k0
      simp only [List.getElem?_toArray, List.getElem?_cons_zero, List.getElem?_cons_succ] at k1
      have st9 := st.out
      have st9 := Sg.put st9 (Firm2.and (Firm2.and (Firm2.and Firm2.yes (Firm2.zi _ _ _)) (Firm2.zi _ _ _)) (Firm2.rc _ _ _)) 1 g1 0 _ 24 (.bool s2) rfl rfl rfl
      have st9 := Sg.put st9 (Firm2.and (Firm2.and (Firm2.and Firm2.yes (Firm2.zi _ _ _)) (Firm2.zi _ _ _)) (Firm2.rc _ _ _)) 1 g1 1 _ 24 (.slice A2 n2 c2) rfl rfl rfl
      have st8 := hide st9
      clear st9
      refine wpAnyH_ready (rs := [10]) (by kernel_rfl) (by simp) ?_
      refine AllReadyH.cons rfl (fun K hK => ?_) ?_
      rotate_left
      · exact AllReadyH.nil
      go_simp
      refine hK.out _ _ st8.out.1 (fun hHeld => ?_)
      clear hK K k0 f0 k1 f1 st
      (try simp only [Act.put, List.setIfInBounds_toArray, List.set_cons_zero, List.set_cons_succ])
      generalize ((W5.setCell ⟨g1, 0, none⟩ _).setCell ⟨g1, 1, none⟩ _) = W6 at *
      have st := st8
      clear st8
      obtain ⟨k0, f0⟩ := Sg.cells st.out 2 g2 #[.bool false, .slice none 0 0, .slice none 0 0] 28 rfl rfl 0
      obtain ⟨k1, f1⟩ := Sg.cells st.out 2 g2 #[.bool false, .slice none 0 0, .slice none 0 0] 28 rfl rfl 1
      obtain ⟨k2, f2⟩ := Sg.cells st.out 2 g2 #[.bool false, .slice none 0 0, .slice none 0 0] 28 rfl rfl 2
      simp only [List.getElem?_toArray, List.getElem?_cons_zero, List.getElem?_cons_succ] at k0
      simp only [List.getElem?_toArray, List.getElem?_cons_zero, List.getElem?_cons_succ] at k1
      simp only [List.getElem?_toArray, List.getElem?_cons_zero, List.getElem?_cons_succ] at k2
      have st9 := st.out
      have st9 := Sg.put st9 (Firm2.and (Firm2.and (Firm2.and Firm2.yes (Firm2.zi _ _ _)) (Firm2.zi _ _ _)) (Firm2.rc _ _ _)) 2 g2 0 _ 28 (.bool s3) rfl rfl rfl
      have st9 := Sg.put st9 (Firm2.and (Firm2.and (Firm2.and Firm2.yes (Firm2.zi _ _ _)) (Firm2.zi _ _ _)) (Firm2.rc _ _ _)) 2 g2 1 _ 28 (.slice A3 n3 c3) rfl rfl rfl
      have st9 := Sg.put st9 (Firm2.and (Firm2.and (Firm2.and Firm2.yes (Firm2.zi _ _ _)) (Firm2.zi _ _ _)) (Firm2.rc _ _ _)) 2 g2 2 _ 28 (.slice D3 m3 d3) rfl rfl rfl
      have st8 := hide st9
      clear st9
      refine wpAnyH_ready (rs := [11]) (by kernel_rfl) (by simp) ?_
      refine AllReadyH.cons rfl (fun K hK => ?_) ?_
      rotate_left
      · exact AllReadyH.nil
      go_simp
      refine hK.out _ _ st8.out.1 (fun hHeld => ?_)
      clear hK K k0 f0 k1 f1 k2 f2 st
      (try simp only [Act.put, List.setIfInBounds_toArray, List.set_cons_zero, List.set_cons_succ])
      generalize (((W6.setCell ⟨g2, 0, none⟩ _).setCell ⟨g2, 1, none⟩ _).setCell ⟨g2, 2, none⟩ _) = W7 at *
      have st := st8
      clear st8
      refine wpAnyH_done (by kernel_rfl) ?_ _
      clear hHeld
      have s9 := st.out
      have P := hide (And.intro (P.out.1.step s9.1) (And.intro (P.out.2.1.step s9.1) (And.intro (P.out.2.2.step s9.1) (And.intro (show Bx W7 g0 s1 A1 n1 c1 from ⟨(Sg.cells s9 0 g0 _ _ rfl rfl 0).1, (Sg.cells s9 0 g0 _ _ rfl rfl 1).1⟩) (And.intro (show Bx W7 g1 s2 A2 n2 c2 from ⟨(Sg.cells s9 1 g1 _ _ rfl rfl 0).1, (Sg.cells s9 1 g1 _ _ rfl rfl 1).1⟩) (show Fx W7 g2 s3 A3 n3 c3 D3 m3 d3 from ⟨(Sg.cells s9 2 g2 _ _ rfl rfl 0).1, (Sg.cells s9 2 g2 _ _ rfl rfl 1).1, (Sg.cells s9 2 g2 _ _ rfl rfl 2).1⟩))))))
      have R : Hid (Rl W7 (rv s (.slice Aa na ca) (.slice Da ma da)) s xsa ysa 12 ∧ Rl W7 (rv s (.slice Ax nx cx) (.slice Dx mx dx)) s xsa ysa 12 ∧ Rf W7 (rv sq (.slice Aq nq cq) (.slice Dq mq dq)) r (5 * 12) ∧ Zi W7 (zv s1 (.slice A1 n1 c1)) r.floor (12 + 1) ∧ Zi W7 (zv s2 (.slice A2 n2 c2)) (-((-r).floor)) (12 + 1) ∧ Rc W7 (rv s3 (.slice A3 n3 c3) (.slice D3 m3 d3)) (r - ((r.floor : Int) : Rat)) (12 + 1)) := hide ⟨R.out.1.step s9.1, R.out.2.1.step s9.1, R.out.2.2.step s9.1, s9.2.2.1.1.1.2, s9.2.2.1.1.2, s9.2.2.1.2⟩
      have B := hide (Below.step B.out B.out.size s9.1)
      clear s9 st
      generalize W7 = w5 at *
      have bx := Below.drew (Below.refl w5.heap.size w5)
      replace P := hide ((And.intro (P.out.1.step bx) (And.intro (P.out.2.1.step bx) (And.intro (P.out.2.2.1.step bx) (And.intro (P.out.2.2.2.1.step bx) (And.intro (P.out.2.2.2.2.1.step bx) (P.out.2.2.2.2.2.step bx)))))))
      replace R := hide ((And.intro (R.out.1.step bx) (And.intro (R.out.2.1.step bx) (And.intro (R.out.2.2.1.step bx) (And.intro (R.out.2.2.2.1.step bx) (And.intro (R.out.2.2.2.2.1.step bx) (R.out.2.2.2.2.2.step bx)))))))
      replace B := hide (Below.step B.out B.out.size bx)
      clear bx
      go_wp2_with fail
      go_region_held3 (fun W => (W.cell? ⟨w.heap.size, 0, none⟩ = some (.bool s) ∧ W.cell? ⟨w.heap.size, 1, none⟩ = some (.slice Aa na ca) ∧ W.cell? ⟨w.heap.size, 2, none⟩ = some (.slice Da ma da)) ∧ (W.cell? ⟨gx, 0, none⟩ = some (.bool s) ∧ W.cell? ⟨gx, 1, none⟩ = some (.slice Ax nx cx) ∧ W.cell? ⟨gx, 2, none⟩ = some (.slice Dx mx dx)) ∧ (W.cell? ⟨gq, 0, none⟩ = some (.bool sq) ∧ W.cell? ⟨gq, 1, none⟩ = some (.slice Aq nq cq) ∧ W.cell? ⟨gq, 2, none⟩ = some (.slice Dq mq dq)) ∧ (W.cell? ⟨g0, 0, none⟩ = some (.bool s1) ∧ W.cell? ⟨g0, 1, none⟩ = some (.slice A1 n1 c1)) ∧ (W.cell? ⟨g1, 0, none⟩ = some (.bool s2) ∧ W.cell? ⟨g1, 1, none⟩ = some (.slice A2 n2 c2)) ∧ (W.cell? ⟨g2, 0, none⟩ = some (.bool s3) ∧ W.cell? ⟨g2, 1, none⟩ = some (.slice A3 n3 c3) ∧ W.cell? ⟨g2, 2, none⟩ = some (.slice D3 m3 d3)))
        (exact P.out)
        (first
          | (go_at_call 32; refine Calls.mono (rqfloor_any (r := r) (L := 5 * 12) R.out.2.2.1 (by omega) (by omega)) ?_; rintro e wx ⟨vx, rfl, tx, bx⟩; replace P := hide ((And.intro (P.out.1.step bx) (And.intro (P.out.2.1.step bx) (And.intro (P.out.2.2.1.step bx) (And.intro (P.out.2.2.2.1.step bx) (And.intro (P.out.2.2.2.2.1.step bx) (P.out.2.2.2.2.2.step bx))))))); replace R := hide ((And.intro (R.out.1.step bx) (And.intro (R.out.2.1.step bx) (And.intro (R.out.2.2.1.step bx) (And.intro (R.out.2.2.2.1.step bx) (And.intro (R.out.2.2.2.2.1.step bx) (R.out.2.2.2.2.2.step bx))))))); replace B := hide (Below.step B.out B.out.size bx))
          | (go_at_call 33; refine Calls.mono (rqceil_any (r := r) (L := 5 * 12) R.out.2.2.1 (by omega) (by omega)) ?_; rintro e wx ⟨vx, rfl, tx, bx⟩; replace P := hide ((And.intro (P.out.1.step bx) (And.intro (P.out.2.1.step bx) (And.intro (P.out.2.2.1.step bx) (And.intro (P.out.2.2.2.1.step bx) (And.intro (P.out.2.2.2.2.1.step bx) (P.out.2.2.2.2.2.step bx))))))); replace R := hide ((And.intro (R.out.1.step bx) (And.intro (R.out.2.1.step bx) (And.intro (R.out.2.2.1.step bx) (And.intro (R.out.2.2.2.1.step bx) (And.intro (R.out.2.2.2.2.1.step bx) (R.out.2.2.2.2.2.step bx))))))); replace B := hide (Below.step B.out B.out.size bx))
          | (go_at_call 31; refine Calls.mono (qto_any (z := r.floor) (L := 5 * 12 + 1) ?_ (by omega)) ?_; (focus ((repeat (first | (with_reducible assumption) | (with_reducible refine Qi.step ?_ (by with_reducible assumption)))); done)); rintro e wx ⟨vx, rfl, tx, bx⟩; replace P := hide ((And.intro (P.out.1.step bx) (And.intro (P.out.2.1.step bx) (And.intro (P.out.2.2.1.step bx) (And.intro (P.out.2.2.2.1.step bx) (And.intro (P.out.2.2.2.2.1.step bx) (P.out.2.2.2.2.2.step bx))))))); replace R := hide ((And.intro (R.out.1.step bx) (And.intro (R.out.2.1.step bx) (And.intro (R.out.2.2.1.step bx) (And.intro (R.out.2.2.2.1.step bx) (And.intro (R.out.2.2.2.2.1.step bx) (R.out.2.2.2.2.2.step bx))))))); replace B := hide (Below.step B.out B.out.size bx))
          | (go_at_call 31; refine Calls.mono (qto_any (z := -((-r).floor)) (L := 5 * 12 + 1) ?_ (by omega)) ?_; (focus ((repeat (first | (with_reducible assumption) | (with_reducible refine Qi.step ?_ (by with_reducible assumption)))); done)); rintro e wx ⟨vx, rfl, tx, bx⟩; replace P := hide ((And.intro (P.out.1.step bx) (And.intro (P.out.2.1.step bx) (And.intro (P.out.2.2.1.step bx) (And.intro (P.out.2.2.2.1.step bx) (And.intro (P.out.2.2.2.2.1.step bx) (P.out.2.2.2.2.2.step bx))))))); replace R := hide ((And.intro (R.out.1.step bx) (And.intro (R.out.2.1.step bx) (And.intro (R.out.2.2.1.step bx) (And.intro (R.out.2.2.2.1.step bx) (And.intro (R.out.2.2.2.2.1.step bx) (R.out.2.2.2.2.2.step bx))))))); replace B := hide (Below.step B.out B.out.size bx))
          | (go_at_call 18; refine Calls.mono (zsame_i (z := r.floor) (L := 12 + 1) (M := 5 * 12 + 1) ?_ ?_) ?_; (focus ((with_reducible exact R.out.2.2.2.1); done)); (focus ((repeat (first | (with_reducible assumption) | (with_reducible exact R.out.2.2.2.1) | (with_reducible refine Zi.step ?_ (by with_reducible assumption)))); done)); rintro e wx ⟨rfl, bx⟩; replace P := hide ((And.intro (P.out.1.step bx) (And.intro (P.out.2.1.step bx) (And.intro (P.out.2.2.1.step bx) (And.intro (P.out.2.2.2.1.step bx) (And.intro (P.out.2.2.2.2.1.step bx) (P.out.2.2.2.2.2.step bx))))))); replace R := hide ((And.intro (R.out.1.step bx) (And.intro (R.out.2.1.step bx) (And.intro (R.out.2.2.1.step bx) (And.intro (R.out.2.2.2.1.step bx) (And.intro (R.out.2.2.2.2.1.step bx) (R.out.2.2.2.2.2.step bx))))))); replace B := hide (Below.step B.out B.out.size bx))
          | (go_at_call 18; refine Calls.mono (zsame_i (z := -((-r).floor)) (L := 12 + 1) (M := 5 * 12 + 1) ?_ ?_) ?_; (focus ((with_reducible exact R.out.2.2.2.2.1); done)); (focus ((repeat (first | (with_reducible assumption) | (with_reducible exact R.out.2.2.2.2.1) | (with_reducible refine Zi.step ?_ (by with_reducible assumption)))); done)); rintro e wx ⟨rfl, bx⟩; replace P := hide ((And.intro (P.out.1.step bx) (And.intro (P.out.2.1.step bx) (And.intro (P.out.2.2.1.step bx) (And.intro (P.out.2.2.2.1.step bx) (And.intro (P.out.2.2.2.2.1.step bx) (P.out.2.2.2.2.2.step bx))))))); replace R := hide ((And.intro (R.out.1.step bx) (And.intro (R.out.2.1.step bx) (And.intro (R.out.2.2.1.step bx) (And.intro (R.out.2.2.2.1.step bx) (And.intro (R.out.2.2.2.2.1.step bx) (R.out.2.2.2.2.2.step bx))))))); replace B := hide (Below.step B.out B.out.size bx))
          | (go_at_call 17; refine Calls.mono (rwhole_any (a := r.floor) (L := 5 * 12 + 1) ?_ (by omega) (by omega)) ?_; (focus ((repeat (first | (with_reducible assumption) | (with_reducible refine Qi.step ?_ (by with_reducible assumption)))); done)); rintro e wx ⟨vx, rfl, tx, bx⟩; replace P := hide ((And.intro (P.out.1.step bx) (And.intro (P.out.2.1.step bx) (And.intro (P.out.2.2.1.step bx) (And.intro (P.out.2.2.2.1.step bx) (And.intro (P.out.2.2.2.2.1.step bx) (P.out.2.2.2.2.2.step bx))))))); replace R := hide ((And.intro (R.out.1.step bx) (And.intro (R.out.2.1.step bx) (And.intro (R.out.2.2.1.step bx) (And.intro (R.out.2.2.2.1.step bx) (And.intro (R.out.2.2.2.2.1.step bx) (R.out.2.2.2.2.2.step bx))))))); replace B := hide (Below.step B.out B.out.size bx))
          | (go_at_call 34; refine Calls.mono (rqsub_any (r1 := r) (r2 := ((r.floor : Int) : Rat)) (L := 5 * 12 + 1) (R.out.2.2.1.more (by omega)) tx (by omega) (by omega)) ?_; rintro e wx ⟨vx, rfl, tx, bx⟩; replace P := hide ((And.intro (P.out.1.step bx) (And.intro (P.out.2.1.step bx) (And.intro (P.out.2.2.1.step bx) (And.intro (P.out.2.2.2.1.step bx) (And.intro (P.out.2.2.2.2.1.step bx) (P.out.2.2.2.2.2.step bx))))))); replace R := hide ((And.intro (R.out.1.step bx) (And.intro (R.out.2.1.step bx) (And.intro (R.out.2.2.1.step bx) (And.intro (R.out.2.2.2.1.step bx) (And.intro (R.out.2.2.2.2.1.step bx) (R.out.2.2.2.2.2.step bx))))))); replace B := hide (Below.step B.out B.out.size bx))
          | (go_at_call 16; refine Calls.mono (rfto_any (r := r - ((r.floor : Int) : Rat)) (L := 5 * 12 + 1 + (5 * 12 + 1) + 1) ?_ (by omega)) ?_; (focus ((repeat (first | (with_reducible assumption) | (with_reducible refine Rf.step ?_ (by with_reducible assumption)))); done)); rintro e wx ⟨vx, rfl, tx, bx⟩; replace P := hide ((And.intro (P.out.1.step bx) (And.intro (P.out.2.1.step bx) (And.intro (P.out.2.2.1.step bx) (And.intro (P.out.2.2.2.1.step bx) (And.intro (P.out.2.2.2.2.1.step bx) (P.out.2.2.2.2.2.step bx))))))); replace R := hide ((And.intro (R.out.1.step bx) (And.intro (R.out.2.1.step bx) (And.intro (R.out.2.2.1.step bx) (And.intro (R.out.2.2.2.1.step bx) (And.intro (R.out.2.2.2.2.1.step bx) (R.out.2.2.2.2.2.step bx))))))); replace B := hide (Below.step B.out B.out.size bx))
          | (go_at_call 15; refine Calls.mono (rsame_c (r := r - ((r.floor : Int) : Rat)) (L := 12 + 1) (M := 5 * 12 + 1 + (5 * 12 + 1) + 1) ?_ ?_) ?_; (focus ((repeat (first | (with_reducible assumption) | (with_reducible exact R.out.2.2.2.2.2) | (with_reducible refine Rc.step ?_ (by with_reducible assumption)))); done)); (focus ((repeat (first | (with_reducible assumption) | (with_reducible exact R.out.2.2.2.2.2) | (with_reducible refine Rc.step ?_ (by with_reducible assumption)))); done)); rintro e wx ⟨rfl, bx⟩; replace P := hide ((And.intro (P.out.1.step bx) (And.intro (P.out.2.1.step bx) (And.intro (P.out.2.2.1.step bx) (And.intro (P.out.2.2.2.1.step bx) (And.intro (P.out.2.2.2.2.1.step bx) (P.out.2.2.2.2.2.step bx))))))); replace R := hide ((And.intro (R.out.1.step bx) (And.intro (R.out.2.1.step bx) (And.intro (R.out.2.2.1.step bx) (And.intro (R.out.2.2.2.1.step bx) (And.intro (R.out.2.2.2.2.1.step bx) (R.out.2.2.2.2.2.step bx))))))); replace B := hide (Below.step B.out B.out.size bx)))
      all_goals
        generalize wx = w6 at *
        clear tx
        have bx := Below.drew (Below.refl w6.heap.size w6)
        replace P := hide ((And.intro (P.out.1.step bx) (And.intro (P.out.2.1.step bx) (And.intro (P.out.2.2.1.step bx) (And.intro (P.out.2.2.2.1.step bx) (And.intro (P.out.2.2.2.2.1.step bx) (P.out.2.2.2.2.2.step bx)))))))
        replace R := hide ((And.intro (R.out.1.step bx) (And.intro (R.out.2.1.step bx) (And.intro (R.out.2.2.1.step bx) (And.intro (R.out.2.2.2.1.step bx) (And.intro (R.out.2.2.2.2.1.step bx) (R.out.2.2.2.2.2.step bx)))))))
        replace B := hide (Below.step B.out B.out.size bx)
        clear bx
        obtain ⟨bw, hbw⟩ : ∃ bw, Hid (decide (((r.floor : Int) : Rat) = r) = bw) := ⟨_, hide rfl⟩
        have hbb : (bw == bw) = true := by simp
        go_wp2_with fail
        go_region_held3 (fun W => (W.cell? ⟨w.heap.size, 0, none⟩ = some (.bool s) ∧ W.cell? ⟨w.heap.size, 1, none⟩ = some (.slice Aa na ca) ∧ W.cell? ⟨w.heap.size, 2, none⟩ = some (.slice Da ma da)) ∧ (W.cell? ⟨gx, 0, none⟩ = some (.bool s) ∧ W.cell? ⟨gx, 1, none⟩ = some (.slice Ax nx cx) ∧ W.cell? ⟨gx, 2, none⟩ = some (.slice Dx mx dx)) ∧ (W.cell? ⟨gq, 0, none⟩ = some (.bool sq) ∧ W.cell? ⟨gq, 1, none⟩ = some (.slice Aq nq cq) ∧ W.cell? ⟨gq, 2, none⟩ = some (.slice Dq mq dq)) ∧ (W.cell? ⟨g0, 0, none⟩ = some (.bool s1) ∧ W.cell? ⟨g0, 1, none⟩ = some (.slice A1 n1 c1)) ∧ (W.cell? ⟨g1, 0, none⟩ = some (.bool s2) ∧ W.cell? ⟨g1, 1, none⟩ = some (.slice A2 n2 c2)) ∧ (W.cell? ⟨g2, 0, none⟩ = some (.bool s3) ∧ W.cell? ⟨g2, 1, none⟩ = some (.slice A3 n3 c3) ∧ W.cell? ⟨g2, 2, none⟩ = some (.slice D3 m3 d3)))
          (exact P.out)
          (first
            | (go_at_call 35; refine Calls.mono (iswhole_r (r := r) (L := 12) (RAa.out _ _ R.out.2.1) (by omega) (by omega)) ?_; rw [hbw.out]; rintro e wx ⟨rfl, bx⟩; replace P := hide ((And.intro (P.out.1.step bx) (And.intro (P.out.2.1.step bx) (And.intro (P.out.2.2.1.step bx) (And.intro (P.out.2.2.2.1.step bx) (And.intro (P.out.2.2.2.2.1.step bx) (P.out.2.2.2.2.2.step bx))))))); replace R := hide ((And.intro (R.out.1.step bx) (And.intro (R.out.2.1.step bx) (And.intro (R.out.2.2.1.step bx) (And.intro (R.out.2.2.2.1.step bx) (And.intro (R.out.2.2.2.2.1.step bx) (R.out.2.2.2.2.2.step bx))))))); replace B := hide (Below.step B.out B.out.size bx))
            | (go_at_call 36; refine Calls.mono (rqwhole_any (r := r) (L := 5 * 12) R.out.2.2.1 (by omega)) ?_; rw [hbw.out]; rintro e wx ⟨rfl, bx⟩; replace P := hide ((And.intro (P.out.1.step bx) (And.intro (P.out.2.1.step bx) (And.intro (P.out.2.2.1.step bx) (And.intro (P.out.2.2.2.1.step bx) (And.intro (P.out.2.2.2.2.1.step bx) (P.out.2.2.2.2.2.step bx))))))); replace R := hide ((And.intro (R.out.1.step bx) (And.intro (R.out.2.1.step bx) (And.intro (R.out.2.2.1.step bx) (And.intro (R.out.2.2.2.1.step bx) (And.intro (R.out.2.2.2.2.1.step bx) (R.out.2.2.2.2.2.step bx))))))); replace B := hide (Below.step B.out B.out.size bx))
            | (go_at_call 15; refine Calls.mono (rsame_l R.out.2.1 R.out.1) ?_; rintro e wx ⟨rfl, bx⟩; replace P := hide ((And.intro (P.out.1.step bx) (And.intro (P.out.2.1.step bx) (And.intro (P.out.2.2.1.step bx) (And.intro (P.out.2.2.2.1.step bx) (And.intro (P.out.2.2.2.2.1.step bx) (P.out.2.2.2.2.2.step bx))))))); replace R := hide ((And.intro (R.out.1.step bx) (And.intro (R.out.2.1.step bx) (And.intro (R.out.2.2.1.step bx) (And.intro (R.out.2.2.2.1.step bx) (And.intro (R.out.2.2.2.2.1.step bx) (R.out.2.2.2.2.2.step bx))))))); replace B := hide (Below.step B.out B.out.size bx)))
        all_goals
          go_wp2_with fail
          go_ret
          exact ⟨rfl, B.out⟩
    refine wpAnyH_with 4 #[true, true, true, true, true, true, true, true, false, false, false, false] (fun a W => ∃ (s1 : Bool) (A1 : Option Addr) (n1 c1 : Nat) (s2 : Bool) (A2 : Option Addr) (n2 c2 : Nat) (s3 : Bool) (A3 : Option Addr) (n3 c3 : Nat) (D3 : Option Addr) (m3 d3 : Nat) (g0 : Nat) (g1 : Nat), a = ⟨#[rv s (.slice Aa na ca) (.slice Da ma da), .pointer (some ⟨w.heap.size, 0, none⟩), .bool false, .pointer (some ⟨gx, 0, none⟩), .pointer (some ⟨gq, 0, none⟩), .pointer (some ⟨g0, 0, none⟩), .pointer (some ⟨g1, 0, none⟩), undef, undef, .bool true, .bool false, rv s (.slice Aa na ca) (.slice Da ma da), rv s (.slice Aa na ca) (.slice Da ma da), .bool false, rv s (.slice Aa na ca) (.slice Da ma da), rv s (.slice Ax nx cx) (.slice Dx mx dx), rv s (.slice Aa na ca) (.slice Da ma da), rv sq (.slice Aq nq cq) (.slice Dq mq dq), rv s (.slice Ax nx cx) (.slice Dx mx dx), zv s1 (.slice A1 n1 c1), rv s (.slice Ax nx cx) (.slice Dx mx dx), zv s2 (.slice A2 n2 c2), rv s (.slice Ax nx cx) (.slice Dx mx dx), rv s3 (.slice A3 n3 c3) (.slice D3 m3 d3), undef, undef, undef, undef, undef, undef, undef, undef, undef, undef, undef, undef, undef, undef, undef, undef, undef, undef, undef, undef, undef, undef, undef, undef, undef, undef, undef, undef, undef, undef, undef, undef, undef, undef, undef], []⟩ ∧ Sg w8.drew.heap.size w8.drew W [zblk, zblk, rblk] [some g0, some g1, none] (fun W => (((True ∧ Zi W (zv s1 (.slice A1 n1 c1)) (r.floor) (12 + 1)) ∧ Zi W (zv s2 (.slice A2 n2 c2)) (-((-r).floor)) (12 + 1)) ∧ Rc W (rv s3 (.slice A3 n3 c3) (.slice D3 m3 d3)) (r - ((r.floor : Int) : Rat)) (12 + 1)))) ?_ (fun Hs3110 => ?_)
    · rintro a W ⟨s1, A1, n1, c1, s2, A2, n2, c2, s3, A3, n3, c3, D3, m3, d3, g0, g1, rfl, st0⟩
      have hHeld := st0.1
      have st := hide st0
      clear st0
      refine wpAnyH_ready (rs := [8]) (by kernel_rfl) (by simp) ?_
      refine AllReadyH.cons rfl (fun K hK => ?_) ?_
      · go_simp
        have st2 := Sg.make st.out (Firm2.and (Firm2.and (Firm2.and Firm2.yes (Firm2.zi _ _ _)) (Firm2.zi _ _ _)) (Firm2.rc _ _ _)) 2 _ rfl (by simp)
        refine hK.out _ _ st2.1 (fun hHeld => ?_)
        (try simp only [Act.put, List.setIfInBounds_toArray, List.set_cons_zero, List.set_cons_succ])
        exact Hs3111.out _ _ ⟨s1, A1, n1, c1, s2, A2, n2, c2, s3, A3, n3, c3, D3, m3, d3, g0, g1, W.heap.size, rfl, st2⟩
      exact AllReadyH.nil
    refine wpAnyH_with 4 #[true, true, true, true, true, true, true, false, true, false, false, false] (fun a W => ∃ (s1 : Bool) (A1 : Option Addr) (n1 c1 : Nat) (s2 : Bool) (A2 : Option Addr) (n2 c2 : Nat) (s3 : Bool) (A3 : Option Addr) (n3 c3 : Nat) (D3 : Option Addr) (m3 d3 : Nat) (g0 : Nat) (g2 : Nat), a = ⟨#[rv s (.slice Aa na ca) (.slice Da ma da), .pointer (some ⟨w.heap.size, 0, none⟩), .bool false, .pointer (some ⟨gx, 0, none⟩), .pointer (some ⟨gq, 0, none⟩), .pointer (some ⟨g0, 0, none⟩), undef, .pointer (some ⟨g2, 0, none⟩), undef, .bool true, .bool false, rv s (.slice Aa na ca) (.slice Da ma da), rv s (.slice Aa na ca) (.slice Da ma da), .bool false, rv s (.slice Aa na ca) (.slice Da ma da), rv s (.slice Ax nx cx) (.slice Dx mx dx), rv s (.slice Aa na ca) (.slice Da ma da), rv sq (.slice Aq nq cq) (.slice Dq mq dq), rv s (.slice Ax nx cx) (.slice Dx mx dx), zv s1 (.slice A1 n1 c1), rv s (.slice Ax nx cx) (.slice Dx mx dx), zv s2 (.slice A2 n2 c2), rv s (.slice Ax nx cx) (.slice Dx mx dx), rv s3 (.slice A3 n3 c3) (.slice D3 m3 d3), undef, undef, undef, undef, undef, undef, undef, undef, undef, undef, undef, undef, undef, undef, undef, undef, undef, undef, undef, undef, undef, undef, undef, undef, undef, undef, undef, undef, undef, undef, undef, undef, undef, undef, undef], []⟩ ∧ Sg w8.drew.heap.size w8.drew W [zblk, zblk, rblk] [some g0, none, some g2] (fun W => (((True ∧ Zi W (zv s1 (.slice A1 n1 c1)) (r.floor) (12 + 1)) ∧ Zi W (zv s2 (.slice A2 n2 c2)) (-((-r).floor)) (12 + 1)) ∧ Rc W (rv s3 (.slice A3 n3 c3) (.slice D3 m3 d3)) (r - ((r.floor : Int) : Rat)) (12 + 1)))) ?_ (fun Hs3101 => ?_)
    · rintro a W ⟨s1, A1, n1, c1, s2, A2, n2, c2, s3, A3, n3, c3, D3, m3, d3, g0, g2, rfl, st0⟩
      have hHeld := st0.1
      have st := hide st0
      clear st0
      refine wpAnyH_ready (rs := [7]) (by kernel_rfl) (by simp) ?_
      refine AllReadyH.cons rfl (fun K hK => ?_) ?_
      · go_simp
        have st2 := Sg.make st.out (Firm2.and (Firm2.and (Firm2.and Firm2.yes (Firm2.zi _ _ _)) (Firm2.zi _ _ _)) (Firm2.rc _ _ _)) 1 _ rfl (by simp)
        refine hK.out _ _ st2.1 (fun hHeld => ?_)
        (try simp only [Act.put, List.setIfInBounds_toArray, List.set_cons_zero, List.set_cons_succ])
        exact Hs3111.out _ _ ⟨s1, A1, n1, c1, s2, A2, n2, c2, s3, A3, n3, c3, D3, m3, d3, g0, W.heap.size, g2, rfl, st2⟩
      exact AllReadyH.nil
    refine wpAnyH_with 5 #[true, true, true, true, true, true, true, false, false, false, false, false] (fun a W => ∃ (s1 : Bool) (A1 : Option Addr) (n1 c1 : Nat) (s2 : Bool) (A2 : Option Addr) (n2 c2 : Nat) (s3 : Bool) (A3 : Option Addr) (n3 c3 : Nat) (D3 : Option Addr) (m3 d3 : Nat) (g0 : Nat), a = ⟨#[rv s (.slice Aa na ca) (.slice Da ma da), .pointer (some ⟨w.heap.size, 0, none⟩), .bool false, .pointer (some ⟨gx, 0, none⟩), .pointer (some ⟨gq, 0, none⟩), .pointer (some ⟨g0, 0, none⟩), undef, undef, undef, .bool true, .bool false, rv s (.slice Aa na ca) (.slice Da ma da), rv s (.slice Aa na ca) (.slice Da ma da), .bool false, rv s (.slice Aa na ca) (.slice Da ma da), rv s (.slice Ax nx cx) (.slice Dx mx dx), rv s (.slice Aa na ca) (.slice Da ma da), rv sq (.slice Aq nq cq) (.slice Dq mq dq), rv s (.slice Ax nx cx) (.slice Dx mx dx), zv s1 (.slice A1 n1 c1), rv s (.slice Ax nx cx) (.slice Dx mx dx), zv s2 (.slice A2 n2 c2), rv s (.slice Ax nx cx) (.slice Dx mx dx), rv s3 (.slice A3 n3 c3) (.slice D3 m3 d3), undef, undef, undef, undef, undef, undef, undef, undef, undef, undef, undef, undef, undef, undef, undef, undef, undef, undef, undef, undef, undef, undef, undef, undef, undef, undef, undef, undef, undef, undef, undef, undef, undef, undef, undef], []⟩ ∧ Sg w8.drew.heap.size w8.drew W [zblk, zblk, rblk] [some g0, none, none] (fun W => (((True ∧ Zi W (zv s1 (.slice A1 n1 c1)) (r.floor) (12 + 1)) ∧ Zi W (zv s2 (.slice A2 n2 c2)) (-((-r).floor)) (12 + 1)) ∧ Rc W (rv s3 (.slice A3 n3 c3) (.slice D3 m3 d3)) (r - ((r.floor : Int) : Rat)) (12 + 1)))) ?_ (fun Hs3100 => ?_)
    · rintro a W ⟨s1, A1, n1, c1, s2, A2, n2, c2, s3, A3, n3, c3, D3, m3, d3, g0, rfl, st0⟩
      have hHeld := st0.1
      have st := hide st0
      clear st0
      refine wpAnyH_ready (rs := [7, 8]) (by kernel_rfl) (by simp) ?_
      refine AllReadyH.cons rfl (fun K hK => ?_) ?_
      · go_simp
        have st2 := Sg.make st.out (Firm2.and (Firm2.and (Firm2.and Firm2.yes (Firm2.zi _ _ _)) (Firm2.zi _ _ _)) (Firm2.rc _ _ _)) 1 _ rfl (by simp)
        refine hK.out _ _ st2.1 (fun hHeld => ?_)
        (try simp only [Act.put, List.setIfInBounds_toArray, List.set_cons_zero, List.set_cons_succ])
        exact Hs3110.out _ _ ⟨s1, A1, n1, c1, s2, A2, n2, c2, s3, A3, n3, c3, D3, m3, d3, g0, W.heap.size, rfl, st2⟩
      refine AllReadyH.cons rfl (fun K hK => ?_) ?_
      · go_simp
        have st2 := Sg.make st.out (Firm2.and (Firm2.and (Firm2.and Firm2.yes (Firm2.zi _ _ _)) (Firm2.zi _ _ _)) (Firm2.rc _ _ _)) 2 _ rfl (by simp)
        refine hK.out _ _ st2.1 (fun hHeld => ?_)
        (try simp only [Act.put, List.setIfInBounds_toArray, List.set_cons_zero, List.set_cons_succ])
        exact Hs3101.out _ _ ⟨s1, A1, n1, c1, s2, A2, n2, c2, s3, A3, n3, c3, D3, m3, d3, g0, W.heap.size, rfl, st2⟩
      exact AllReadyH.nil
    refine wpAnyH_with 4 #[true, true, true, true, true, true, false, true, true, false, false, false] (fun a W => ∃ (s1 : Bool) (A1 : Option Addr) (n1 c1 : Nat) (s2 : Bool) (A2 : Option Addr) (n2 c2 : Nat) (s3 : Bool) (A3 : Option Addr) (n3 c3 : Nat) (D3 : Option Addr) (m3 d3 : Nat) (g1 : Nat) (g2 : Nat), a = ⟨#[rv s (.slice Aa na ca) (.slice Da ma da), .pointer (some ⟨w.heap.size, 0, none⟩), .bool false, .pointer (some ⟨gx, 0, none⟩), .pointer (some ⟨gq, 0, none⟩), undef, .pointer (some ⟨g1, 0, none⟩), .pointer (some ⟨g2, 0, none⟩), undef, .bool true, .bool false, rv s (.slice Aa na ca) (.slice Da ma da), rv s (.slice Aa na ca) (.slice Da ma da), .bool false, rv s (.slice Aa na ca) (.slice Da ma da), rv s (.slice Ax nx cx) (.slice Dx mx dx), rv s (.slice Aa na ca) (.slice Da ma da), rv sq (.slice Aq nq cq) (.slice Dq mq dq), rv s (.slice Ax nx cx) (.slice Dx mx dx), zv s1 (.slice A1 n1 c1), rv s (.slice Ax nx cx) (.slice Dx mx dx), zv s2 (.slice A2 n2 c2), rv s (.slice Ax nx cx) (.slice Dx mx dx), rv s3 (.slice A3 n3 c3) (.slice D3 m3 d3), undef, undef, undef, undef, undef, undef, undef, undef, undef, undef, undef, undef, undef, undef, undef, undef, undef, undef, undef, undef, undef, undef, undef, undef, undef, undef, undef, undef, undef, undef, undef, undef, undef, undef, undef], []⟩ ∧ Sg w8.drew.heap.size w8.drew W [zblk, zblk, rblk] [none, some g1, some g2] (fun W => (((True ∧ Zi W (zv s1 (.slice A1 n1 c1)) (r.floor) (12 + 1)) ∧ Zi W (zv s2 (.slice A2 n2 c2)) (-((-r).floor)) (12 + 1)) ∧ Rc W (rv s3 (.slice A3 n3 c3) (.slice D3 m3 d3)) (r - ((r.floor : Int) : Rat)) (12 + 1)))) ?_ (fun Hs3011 => ?_)
    · rintro a W ⟨s1, A1, n1, c1, s2, A2, n2, c2, s3, A3, n3, c3, D3, m3, d3, g1, g2, rfl, st0⟩
      have hHeld := st0.1
      have st := hide st0
      clear st0
      refine wpAnyH_ready (rs := [6]) (by kernel_rfl) (by simp) ?_
      refine AllReadyH.cons rfl (fun K hK => ?_) ?_
      · go_simp
        have st2 := Sg.make st.out (Firm2.and (Firm2.and (Firm2.and Firm2.yes (Firm2.zi _ _ _)) (Firm2.zi _ _ _)) (Firm2.rc _ _ _)) 0 _ rfl (by simp)
        refine hK.out _ _ st2.1 (fun hHeld => ?_)
        (try simp only [Act.put, List.setIfInBounds_toArray, List.set_cons_zero, List.set_cons_succ])
        exact Hs3111.out _ _ ⟨s1, A1, n1, c1, s2, A2, n2, c2, s3, A3, n3, c3, D3, m3, d3, W.heap.size, g1, g2, rfl, st2⟩
      exact AllReadyH.nil
    refine wpAnyH_with 5 #[true, true, true, true, true, true, false, true, false, false, false, false] (fun a W => ∃ (s1 : Bool) (A1 : Option Addr) (n1 c1 : Nat) (s2 : Bool) (A2 : Option Addr) (n2 c2 : Nat) (s3 : Bool) (A3 : Option Addr) (n3 c3 : Nat) (D3 : Option Addr) (m3 d3 : Nat) (g1 : Nat), a = ⟨#[rv s (.slice Aa na ca) (.slice Da ma da), .pointer (some ⟨w.heap.size, 0, none⟩), .bool false, .pointer (some ⟨gx, 0, none⟩), .pointer (some ⟨gq, 0, none⟩), undef, .pointer (some ⟨g1, 0, none⟩), undef, undef, .bool true, .bool false, rv s (.slice Aa na ca) (.slice Da ma da), rv s (.slice Aa na ca) (.slice Da ma da), .bool false, rv s (.slice Aa na ca) (.slice Da ma da), rv s (.slice Ax nx cx) (.slice Dx mx dx), rv s (.slice Aa na ca) (.slice Da ma da), rv sq (.slice Aq nq cq) (.slice Dq mq dq), rv s (.slice Ax nx cx) (.slice Dx mx dx), zv s1 (.slice A1 n1 c1), rv s (.slice Ax nx cx) (.slice Dx mx dx), zv s2 (.slice A2 n2 c2), rv s (.slice Ax nx cx) (.slice Dx mx dx), rv s3 (.slice A3 n3 c3) (.slice D3 m3 d3), undef, undef, undef, undef, undef, undef, undef, undef, undef, undef, undef, undef, undef, undef, undef, undef, undef, undef, undef, undef, undef, undef, undef, undef, undef, undef, undef, undef, undef, undef, undef, undef, undef, undef, undef], []⟩ ∧ Sg w8.drew.heap.size w8.drew W [zblk, zblk, rblk] [none, some g1, none] (fun W => (((True ∧ Zi W (zv s1 (.slice A1 n1 c1)) (r.floor) (12 + 1)) ∧ Zi W (zv s2 (.slice A2 n2 c2)) (-((-r).floor)) (12 + 1)) ∧ Rc W (rv s3 (.slice A3 n3 c3) (.slice D3 m3 d3)) (r - ((r.floor : Int) : Rat)) (12 + 1)))) ?_ (fun Hs3010 => ?_)
    · rintro a W ⟨s1, A1, n1, c1, s2, A2, n2, c2, s3, A3, n3, c3, D3, m3, d3, g1, rfl, st0⟩
      have hHeld := st0.1
      have st := hide st0
      clear st0
      refine wpAnyH_ready (rs := [6, 8]) (by kernel_rfl) (by simp) ?_
      refine AllReadyH.cons rfl (fun K hK => ?_) ?_
      · go_simp
        have st2 := Sg.make st.out (Firm2.and (Firm2.and (Firm2.and Firm2.yes (Firm2.zi _ _ _)) (Firm2.zi _ _ _)) (Firm2.rc _ _ _)) 0 _ rfl (by simp)
        refine hK.out _ _ st2.1 (fun hHeld => ?_)
        (try simp only [Act.put, List.setIfInBounds_toArray, List.set_cons_zero, List.set_cons_succ])
        exact Hs3110.out _ _ ⟨s1, A1, n1, c1, s2, A2, n2, c2, s3, A3, n3, c3, D3, m3, d3, W.heap.size, g1, rfl, st2⟩
      refine AllReadyH.cons rfl (fun K hK => ?_) ?_
      · go_simp
        have st2 := Sg.make st.out (Firm2.and (Firm2.and (Firm2.and Firm2.yes (Firm2.zi _ _ _)) (Firm2.zi _ _ _)) (Firm2.rc _ _ _)) 2 _ rfl (by simp)
        refine hK.out _ _ st2.1 (fun hHeld => ?_)
        (try simp only [Act.put, List.setIfInBounds_toArray, List.set_cons_zero, List.set_cons_succ])
        exact Hs3011.out _ _ ⟨s1, A1, n1, c1, s2, A2, n2, c2, s3, A3, n3, c3, D3, m3, d3, g1, W.heap.size, rfl, st2⟩
      exact AllReadyH.nil
    refine wpAnyH_with 5 #[true, true, true, true, true, true, false, false, true, false, false, false] (fun a W => ∃ (s1 : Bool) (A1 : Option Addr) (n1 c1 : Nat) (s2 : Bool) (A2 : Option Addr) (n2 c2 : Nat) (s3 : Bool) (A3 : Option Addr) (n3 c3 : Nat) (D3 : Option Addr) (m3 d3 : Nat) (g2 : Nat), a = ⟨#[rv s (.slice Aa na ca) (.slice Da ma da), .pointer (some ⟨w.heap.size, 0, none⟩), .bool false, .pointer (some ⟨gx, 0, none⟩), .pointer (some ⟨gq, 0, none⟩), undef, undef, .pointer (some ⟨g2, 0, none⟩), undef, .bool true, .bool false, rv s (.slice Aa na ca) (.slice Da ma da), rv s (.slice Aa na ca) (.slice Da ma da), .bool false, rv s (.slice Aa na ca) (.slice Da ma da), rv s (.slice Ax nx cx) (.slice Dx mx dx), rv s (.slice Aa na ca) (.slice Da ma da), rv sq (.slice Aq nq cq) (.slice Dq mq dq), rv s (.slice Ax nx cx) (.slice Dx mx dx), zv s1 (.slice A1 n1 c1), rv s (.slice Ax nx cx) (.slice Dx mx dx), zv s2 (.slice A2 n2 c2), rv s (.slice Ax nx cx) (.slice Dx mx dx), rv s3 (.slice A3 n3 c3) (.slice D3 m3 d3), undef, undef, undef, undef, undef, undef, undef, undef, undef, undef, undef, undef, undef, undef, undef, undef, undef, undef, undef, undef, undef, undef, undef, undef, undef, undef, undef, undef, undef, undef, undef, undef, undef, undef, undef], []⟩ ∧ Sg w8.drew.heap.size w8.drew W [zblk, zblk, rblk] [none, none, some g2] (fun W => (((True ∧ Zi W (zv s1 (.slice A1 n1 c1)) (r.floor) (12 + 1)) ∧ Zi W (zv s2 (.slice A2 n2 c2)) (-((-r).floor)) (12 + 1)) ∧ Rc W (rv s3 (.slice A3 n3 c3) (.slice D3 m3 d3)) (r - ((r.floor : Int) : Rat)) (12 + 1)))) ?_ (fun Hs3001 => ?_)
    · rintro a W ⟨s1, A1, n1, c1, s2, A2, n2, c2, s3, A3, n3, c3, D3, m3, d3, g2, rfl, st0⟩
      have hHeld := st0.1
      have st := hide st0
      clear st0
      refine wpAnyH_ready (rs := [6, 7]) (by kernel_rfl) (by simp) ?_
      refine AllReadyH.cons rfl (fun K hK => ?_) ?_
      · go_simp
        have st2 := Sg.make st.out (Firm2.and (Firm2.and (Firm2.and Firm2.yes (Firm2.zi _ _ _)) (Firm2.zi _ _ _)) (Firm2.rc _ _ _)) 0 _ rfl (by simp)
        refine hK.out _ _ st2.1 (fun hHeld => ?_)
        (try simp only [Act.put, List.setIfInBounds_toArray, List.set_cons_zero, List.set_cons_succ])
        exact Hs3101.out _ _ ⟨s1, A1, n1, c1, s2, A2, n2, c2, s3, A3, n3, c3, D3, m3, d3, W.heap.size, g2, rfl, st2⟩
      refine AllReadyH.cons rfl (fun K hK => ?_) ?_
      · go_simp
        have st2 := Sg.make st.out (Firm2.and (Firm2.and (Firm2.and Firm2.yes (Firm2.zi _ _ _)) (Firm2.zi _ _ _)) (Firm2.rc _ _ _)) 1 _ rfl (by simp)
        refine hK.out _ _ st2.1 (fun hHeld => ?_)
        (try simp only [Act.put, List.setIfInBounds_toArray, List.set_cons_zero, List.set_cons_succ])
        exact Hs3011.out _ _ ⟨s1, A1, n1, c1, s2, A2, n2, c2, s3, A3, n3, c3, D3, m3, d3, W.heap.size, g2, rfl, st2⟩
      exact AllReadyH.nil
    refine wpAnyH_with 6 #[true, true, true, true, true, true, false, false, false, false, false, false] (fun a W => ∃ (s1 : Bool) (A1 : Option Addr) (n1 c1 : Nat) (s2 : Bool) (A2 : Option Addr) (n2 c2 : Nat) (s3 : Bool) (A3 : Option Addr) (n3 c3 : Nat) (D3 : Option Addr) (m3 d3 : Nat), a = ⟨#[rv s (.slice Aa na ca) (.slice Da ma da), .pointer (some ⟨w.heap.size, 0, none⟩), .bool false, .pointer (some ⟨gx, 0, none⟩), .pointer (some ⟨gq, 0, none⟩), undef, undef, undef, undef, .bool true, .bool false, rv s (.slice Aa na ca) (.slice Da ma da), rv s (.slice Aa na ca) (.slice Da ma da), .bool false, rv s (.slice Aa na ca) (.slice Da ma da), rv s (.slice Ax nx cx) (.slice Dx mx dx), rv s (.slice Aa na ca) (.slice Da ma da), rv sq (.slice Aq nq cq) (.slice Dq mq dq), rv s (.slice Ax nx cx) (.slice Dx mx dx), zv s1 (.slice A1 n1 c1), rv s (.slice Ax nx cx) (.slice Dx mx dx), zv s2 (.slice A2 n2 c2), rv s (.slice Ax nx cx) (.slice Dx mx dx), rv s3 (.slice A3 n3 c3) (.slice D3 m3 d3), undef, undef, undef, undef, undef, undef, undef, undef, undef, undef, undef, undef, undef, undef, undef, undef, undef, undef, undef, undef, undef, undef, undef, undef, undef, undef, undef, undef, undef, undef, undef, undef, undef, undef, undef], []⟩ ∧ Sg w8.drew.heap.size w8.drew W [zblk, zblk, rblk] [none, none, none] (fun W => (((True ∧ Zi W (zv s1 (.slice A1 n1 c1)) (r.floor) (12 + 1)) ∧ Zi W (zv s2 (.slice A2 n2 c2)) (-((-r).floor)) (12 + 1)) ∧ Rc W (rv s3 (.slice A3 n3 c3) (.slice D3 m3 d3)) (r - ((r.floor : Int) : Rat)) (12 + 1)))) ?_ (fun Hs3000 => ?_)
    · rintro a W ⟨s1, A1, n1, c1, s2, A2, n2, c2, s3, A3, n3, c3, D3, m3, d3, rfl, st0⟩
      have hHeld := st0.1
      have st := hide st0
      clear st0
      refine wpAnyH_ready (rs := [6, 7, 8]) (by kernel_rfl) (by simp) ?_
      refine AllReadyH.cons rfl (fun K hK => ?_) ?_
      · go_simp
        have st2 := Sg.make st.out (Firm2.and (Firm2.and (Firm2.and Firm2.yes (Firm2.zi _ _ _)) (Firm2.zi _ _ _)) (Firm2.rc _ _ _)) 0 _ rfl (by simp)
        refine hK.out _ _ st2.1 (fun hHeld => ?_)
        (try simp only [Act.put, List.setIfInBounds_toArray, List.set_cons_zero, List.set_cons_succ])
        exact Hs3100.out _ _ ⟨s1, A1, n1, c1, s2, A2, n2, c2, s3, A3, n3, c3, D3, m3, d3, W.heap.size, rfl, st2⟩
      refine AllReadyH.cons rfl (fun K hK => ?_) ?_
      · go_simp
        have st2 := Sg.make st.out (Firm2.and (Firm2.and (Firm2.and Firm2.yes (Firm2.zi _ _ _)) (Firm2.zi _ _ _)) (Firm2.rc _ _ _)) 1 _ rfl (by simp)
        refine hK.out _ _ st2.1 (fun hHeld => ?_)
        (try simp only [Act.put, List.setIfInBounds_toArray, List.set_cons_zero, List.set_cons_succ])
        exact Hs3010.out _ _ ⟨s1, A1, n1, c1, s2, A2, n2, c2, s3, A3, n3, c3, D3, m3, d3, W.heap.size, rfl, st2⟩
      refine AllReadyH.cons rfl (fun K hK => ?_) ?_
      · go_simp
        have st2 := Sg.make st.out (Firm2.and (Firm2.and (Firm2.and Firm2.yes (Firm2.zi _ _ _)) (Firm2.zi _ _ _)) (Firm2.rc _ _ _)) 2 _ rfl (by simp)
        refine hK.out _ _ st2.1 (fun hHeld => ?_)
        (try simp only [Act.put, List.setIfInBounds_toArray, List.set_cons_zero, List.set_cons_succ])
        exact Hs3001.out _ _ ⟨s1, A1, n1, c1, s2, A2, n2, c2, s3, A3, n3, c3, D3, m3, d3, W.heap.size, rfl, st2⟩
      exact AllReadyH.nil
    refine wpAnyH_with 4 #[true, true, true, true, true, false, true, true, true, false, false, false] (fun a W => ∃ (s1 : Bool) (A1 : Option Addr) (n1 c1 : Nat) (s2 : Bool) (A2 : Option Addr) (n2 c2 : Nat) (g0 : Nat) (g1 : Nat) (g2 : Nat), a = ⟨#[rv s (.slice Aa na ca) (.slice Da ma da), .pointer (some ⟨w.heap.size, 0, none⟩), .bool false, .pointer (some ⟨gx, 0, none⟩), .pointer (some ⟨gq, 0, none⟩), .pointer (some ⟨g0, 0, none⟩), .pointer (some ⟨g1, 0, none⟩), .pointer (some ⟨g2, 0, none⟩), undef, .bool true, .bool false, rv s (.slice Aa na ca) (.slice Da ma da), rv s (.slice Aa na ca) (.slice Da ma da), .bool false, rv s (.slice Aa na ca) (.slice Da ma da), rv s (.slice Ax nx cx) (.slice Dx mx dx), rv s (.slice Aa na ca) (.slice Da ma da), rv sq (.slice Aq nq cq) (.slice Dq mq dq), rv s (.slice Ax nx cx) (.slice Dx mx dx), zv s1 (.slice A1 n1 c1), rv s (.slice Ax nx cx) (.slice Dx mx dx), zv s2 (.slice A2 n2 c2), rv s (.slice Ax nx cx) (.slice Dx mx dx), undef, undef, undef, undef, undef, undef, undef, undef, undef, undef, undef, undef, undef, undef, undef, undef, undef, undef, undef, undef, undef, undef, undef, undef, undef, undef, undef, undef, undef, undef, undef, undef, undef, undef, undef, undef], []⟩ ∧ Sg w8.drew.heap.size w8.drew W [zblk, zblk, rblk] [some g0, some g1, some g2] (fun W => ((True ∧ Zi W (zv s1 (.slice A1 n1 c1)) (r.floor) (12 + 1)) ∧ Zi W (zv s2 (.slice A2 n2 c2)) (-((-r).floor)) (12 + 1)))) ?_ (fun Hs2111 => ?_)
    · rintro a W ⟨s1, A1, n1, c1, s2, A2, n2, c2, g0, g1, g2, rfl, st0⟩
      have hHeld := st0.1
      have st := hide st0
      clear st0
      refine wpAnyH_ready (rs := [5]) (by kernel_rfl) (by simp) ?_
      refine AllReadyH.cons rfl (fun K hK => ?_) ?_
      · go_simp
        go_at_call 30
        refine Calls.mono (frac_r (L := 12) (RAa.out _ _ (R.out.2.1.step st.out.1)) (by omega) (by omega)) ?_
        rintro e wx ⟨v9, rfl, hq, bx⟩
        obtain ⟨s3, A3, n3, c3, D3, m3, d3, rfl, tx⟩ := hq.parts
        clear hq
        try dsimp only
        have st2 := Sg.call (G := fun W => Rc W (rv s3 (.slice A3 n3 c3) (.slice D3 m3 d3)) (r - ((r.floor : Int) : Rat)) (12 + 1)) st.out bx (Firm2.and (Firm2.and Firm2.yes (Firm2.zi _ _ _)) (Firm2.zi _ _ _)) tx
        have hSt := hide st2
        refine hK.out _ _ st2.1 (fun hHeld => ?_)
        clear hK K st2
        (try simp only [Act.put, List.setIfInBounds_toArray, List.set_cons_zero, List.set_cons_succ])
        exact Hs3111.out _ _ ⟨s1, A1, n1, c1, s2, A2, n2, c2, s3, A3, n3, c3, D3, m3, d3, g0, g1, g2, rfl, hSt.out⟩
      exact AllReadyH.nil
    refine wpAnyH_with 5 #[true, true, true, true, true, false, true, true, false, false, false, false] (fun a W => ∃ (s1 : Bool) (A1 : Option Addr) (n1 c1 : Nat) (s2 : Bool) (A2 : Option Addr) (n2 c2 : Nat) (g0 : Nat) (g1 : Nat), a = ⟨#[rv s (.slice Aa na ca) (.slice Da ma da), .pointer (some ⟨w.heap.size, 0, none⟩), .bool false, .pointer (some ⟨gx, 0, none⟩), .pointer (some ⟨gq, 0, none⟩), .pointer (some ⟨g0, 0, none⟩), .pointer (some ⟨g1, 0, none⟩), undef, undef, .bool true, .bool false, rv s (.slice Aa na ca) (.slice Da ma da), rv s (.slice Aa na ca) (.slice Da ma da), .bool false, rv s (.slice Aa na ca) (.slice Da ma da), rv s (.slice Ax nx cx) (.slice Dx mx dx), rv s (.slice Aa na ca) (.slice Da ma da), rv sq (.slice Aq nq cq) (.slice Dq mq dq), rv s (.slice Ax nx cx) (.slice Dx mx dx), zv s1 (.slice A1 n1 c1), rv s (.slice Ax nx cx) (.slice Dx mx dx), zv s2 (.slice A2 n2 c2), rv s (.slice Ax nx cx) (.slice Dx mx dx), undef, undef, undef, undef, undef, undef, undef, undef, undef, undef, undef, undef, undef, undef, undef, undef, undef, undef, undef, undef, undef, undef, undef, undef, undef, undef, undef, undef, undef, undef, undef, undef, undef, undef, undef, undef], []⟩ ∧ Sg w8.drew.heap.size w8.drew W [zblk, zblk, rblk] [some g0, some g1, none] (fun W => ((True ∧ Zi W (zv s1 (.slice A1 n1 c1)) (r.floor) (12 + 1)) ∧ Zi W (zv s2 (.slice A2 n2 c2)) (-((-r).floor)) (12 + 1)))) ?_ (fun Hs2110 => ?_)
    · rintro a W ⟨s1, A1, n1, c1, s2, A2, n2, c2, g0, g1, rfl, st0⟩
      have hHeld := st0.1
      have st := hide st0
      clear st0
      refine wpAnyH_ready (rs := [5, 8]) (by kernel_rfl) (by simp) ?_
      refine AllReadyH.cons rfl (fun K hK => ?_) ?_
      · go_simp
        go_at_call 30
        refine Calls.mono (frac_r (L := 12) (RAa.out _ _ (R.out.2.1.step st.out.1)) (by omega) (by omega)) ?_
        rintro e wx ⟨v9, rfl, hq, bx⟩
        obtain ⟨s3, A3, n3, c3, D3, m3, d3, rfl, tx⟩ := hq.parts
        clear hq
        try dsimp only
        have st2 := Sg.call (G := fun W => Rc W (rv s3 (.slice A3 n3 c3) (.slice D3 m3 d3)) (r - ((r.floor : Int) : Rat)) (12 + 1)) st.out bx (Firm2.and (Firm2.and Firm2.yes (Firm2.zi _ _ _)) (Firm2.zi _ _ _)) tx
        have hSt := hide st2
        refine hK.out _ _ st2.1 (fun hHeld => ?_)
        clear hK K st2
        (try simp only [Act.put, List.setIfInBounds_toArray, List.set_cons_zero, List.set_cons_succ])
        exact Hs3110.out _ _ ⟨s1, A1, n1, c1, s2, A2, n2, c2, s3, A3, n3, c3, D3, m3, d3, g0, g1, rfl, hSt.out⟩
      refine AllReadyH.cons rfl (fun K hK => ?_) ?_
      · go_simp
        have st2 := Sg.make st.out (Firm2.and (Firm2.and Firm2.yes (Firm2.zi _ _ _)) (Firm2.zi _ _ _)) 2 _ rfl (by simp)
        refine hK.out _ _ st2.1 (fun hHeld => ?_)
        (try simp only [Act.put, List.setIfInBounds_toArray, List.set_cons_zero, List.set_cons_succ])
        exact Hs2111.out _ _ ⟨s1, A1, n1, c1, s2, A2, n2, c2, g0, g1, W.heap.size, rfl, st2⟩
      exact AllReadyH.nil
    refine wpAnyH_with 5 #[true, true, true, true, true, false, true, false, true, false, false, false] (fun a W => ∃ (s1 : Bool) (A1 : Option Addr) (n1 c1 : Nat) (s2 : Bool) (A2 : Option Addr) (n2 c2 : Nat) (g0 : Nat) (g2 : Nat), a = ⟨#[rv s (.slice Aa na ca) (.slice Da ma da), .pointer (some ⟨w.heap.size, 0, none⟩), .bool false, .pointer (some ⟨gx, 0, none⟩), .pointer (some ⟨gq, 0, none⟩), .pointer (some ⟨g0, 0, none⟩), undef, .pointer (some ⟨g2, 0, none⟩), undef, .bool true, .bool false, rv s (.slice Aa na ca) (.slice Da ma da), rv s (.slice Aa na ca) (.slice Da ma da), .bool false, rv s (.slice Aa na ca) (.slice Da ma da), rv s (.slice Ax nx cx) (.slice Dx mx dx), rv s (.slice Aa na ca) (.slice Da ma da), rv sq (.slice Aq nq cq) (.slice Dq mq dq), rv s (.slice Ax nx cx) (.slice Dx mx dx), zv s1 (.slice A1 n1 c1), rv s (.slice Ax nx cx) (.slice Dx mx dx), zv s2 (.slice A2 n2 c2), rv s (.slice Ax nx cx) (.slice Dx mx dx), undef, undef, undef, undef, undef, undef, undef, undef, undef, undef, undef, undef, undef, undef, undef, undef, undef, undef, undef, undef, undef, undef, undef, undef, undef, undef, undef, undef, undef, undef, undef, undef, undef, undef, undef, undef], []⟩ ∧ Sg w8.drew.heap.size w8.drew W [zblk, zblk, rblk] [some g0, none, some g2] (fun W => ((True ∧ Zi W (zv s1 (.slice A1 n1 c1)) (r.floor) (12 + 1)) ∧ Zi W (zv s2 (.slice A2 n2 c2)) (-((-r).floor)) (12 + 1)))) ?_ (fun Hs2101 => ?_)
    · rintro a W ⟨s1, A1, n1, c1, s2, A2, n2, c2, g0, g2, rfl, st0⟩
      have hHeld := st0.1
      have st := hide st0
      clear st0
      refine wpAnyH_ready (rs := [5, 7]) (by kernel_rfl) (by simp) ?_
      refine AllReadyH.cons rfl (fun K hK => ?_) ?_
      · go_simp
        go_at_call 30
        refine Calls.mono (frac_r (L := 12) (RAa.out _ _ (R.out.2.1.step st.out.1)) (by omega) (by omega)) ?_
        rintro e wx ⟨v9, rfl, hq, bx⟩
        obtain ⟨s3, A3, n3, c3, D3, m3, d3, rfl, tx⟩ := hq.parts
        clear hq
        try dsimp only
        have st2 := Sg.call (G := fun W => Rc W (rv s3 (.slice A3 n3 c3) (.slice D3 m3 d3)) (r - ((r.floor : Int) : Rat)) (12 + 1)) st.out bx (Firm2.and (Firm2.and Firm2.yes (Firm2.zi _ _ _)) (Firm2.zi _ _ _)) tx
        have hSt := hide st2
        refine hK.out _ _ st2.1 (fun hHeld => ?_)
        clear hK K st2
        (try simp only [Act.put, List.setIfInBounds_toArray, List.set_cons_zero, List.set_cons_succ])
        exact Hs3101.out _ _ ⟨s1, A1, n1, c1, s2, A2, n2, c2, s3, A3, n3, c3, D3, m3, d3, g0, g2, rfl, hSt.out⟩
      refine AllReadyH.cons rfl (fun K hK => ?_) ?_
      · go_simp
        have st2 := Sg.make st.out (Firm2.and (Firm2.and Firm2.yes (Firm2.zi _ _ _)) (Firm2.zi _ _ _)) 1 _ rfl (by simp)
        refine hK.out _ _ st2.1 (fun hHeld => ?_)
        (try simp only [Act.put, List.setIfInBounds_toArray, List.set_cons_zero, List.set_cons_succ])
        exact Hs2111.out _ _ ⟨s1, A1, n1, c1, s2, A2, n2, c2, g0, W.heap.size, g2, rfl, st2⟩
      exact AllReadyH.nil
    refine wpAnyH_with 6 #[true, true, true, true, true, false, true, false, false, false, false, false] (fun a W => ∃ (s1 : Bool) (A1 : Option Addr) (n1 c1 : Nat) (s2 : Bool) (A2 : Option Addr) (n2 c2 : Nat) (g0 : Nat), a = ⟨#[rv s (.slice Aa na ca) (.slice Da ma da), .pointer (some ⟨w.heap.size, 0, none⟩), .bool false, .pointer (some ⟨gx, 0, none⟩), .pointer (some ⟨gq, 0, none⟩), .pointer (some ⟨g0, 0, none⟩), undef, undef, undef, .bool true, .bool false, rv s (.slice Aa na ca) (.slice Da ma da), rv s (.slice Aa na ca) (.slice Da ma da), .bool false, rv s (.slice Aa na ca) (.slice Da ma da), rv s (.slice Ax nx cx) (.slice Dx mx dx), rv s (.slice Aa na ca) (.slice Da ma da), rv sq (.slice Aq nq cq) (.slice Dq mq dq), rv s (.slice Ax nx cx) (.slice Dx mx dx), zv s1 (.slice A1 n1 c1), rv s (.slice Ax nx cx) (.slice Dx mx dx), zv s2 (.slice A2 n2 c2), rv s (.slice Ax nx cx) (.slice Dx mx dx), undef, undef, undef, undef, undef, undef, undef, undef, undef, undef, undef, undef, undef, undef, undef, undef, undef, undef, undef, undef, undef, undef, undef, undef, undef, undef, undef, undef, undef, undef, undef, undef, undef, undef, undef, undef], []⟩ ∧ Sg w8.drew.heap.size w8.drew W [zblk, zblk, rblk] [some g0, none, none] (fun W => ((True ∧ Zi W (zv s1 (.slice A1 n1 c1)) (r.floor) (12 + 1)) ∧ Zi W (zv s2 (.slice A2 n2 c2)) (-((-r).floor)) (12 + 1)))) ?_ (fun Hs2100 => ?_)
    · rintro a W ⟨s1, A1, n1, c1, s2, A2, n2, c2, g0, rfl, st0⟩
      have hHeld := st0.1
      have st := hide st0
      clear st0
      refine wpAnyH_ready (rs := [5, 7, 8]) (by kernel_rfl) (by simp) ?_
      refine AllReadyH.cons rfl (fun K hK => ?_) ?_
      · go_simp
        go_at_call 30
        refine Calls.mono (frac_r (L := 12) (RAa.out _ _ (R.out.2.1.step st.out.1)) (by omega) (by omega)) ?_
        rintro e wx ⟨v9, rfl, hq, bx⟩
        obtain ⟨s3, A3, n3, c3, D3, m3, d3, rfl, tx⟩ := hq.parts
        clear hq
        try dsimp only
        have st2 := Sg.call (G := fun W => Rc W (rv s3 (.slice A3 n3 c3) (.slice D3 m3 d3)) (r - ((r.floor : Int) : Rat)) (12 + 1)) st.out bx (Firm2.and (Firm2.and Firm2.yes (Firm2.zi _ _ _)) (Firm2.zi _ _ _)) tx
        have hSt := hide st2
        refine hK.out _ _ st2.1 (fun hHeld => ?_)
        clear hK K st2
        (try simp only [Act.put, List.setIfInBounds_toArray, List.set_cons_zero, List.set_cons_succ])
        exact Hs3100.out _ _ ⟨s1, A1, n1, c1, s2, A2, n2, c2, s3, A3, n3, c3, D3, m3, d3, g0, rfl, hSt.out⟩
      refine AllReadyH.cons rfl (fun K hK => ?_) ?_
      · go_simp
        have st2 := Sg.make st.out (Firm2.and (Firm2.and Firm2.yes (Firm2.zi _ _ _)) (Firm2.zi _ _ _)) 1 _ rfl (by simp)
        refine hK.out _ _ st2.1 (fun hHeld => ?_)
        (try simp only [Act.put, List.setIfInBounds_toArray, List.set_cons_zero, List.set_cons_succ])
        exact Hs2110.out _ _ ⟨s1, A1, n1, c1, s2, A2, n2, c2, g0, W.heap.size, rfl, st2⟩
      refine AllReadyH.cons rfl (fun K hK => ?_) ?_
      · go_simp
        have st2 := Sg.make st.out (Firm2.and (Firm2.and Firm2.yes (Firm2.zi _ _ _)) (Firm2.zi _ _ _)) 2 _ rfl (by simp)
        refine hK.out _ _ st2.1 (fun hHeld => ?_)
        (try simp only [Act.put, List.setIfInBounds_toArray, List.set_cons_zero, List.set_cons_succ])
        exact Hs2101.out _ _ ⟨s1, A1, n1, c1, s2, A2, n2, c2, g0, W.heap.size, rfl, st2⟩
      exact AllReadyH.nil
    refine wpAnyH_with 5 #[true, true, true, true, true, false, false, true, true, false, false, false] (fun a W => ∃ (s1 : Bool) (A1 : Option Addr) (n1 c1 : Nat) (s2 : Bool) (A2 : Option Addr) (n2 c2 : Nat) (g1 : Nat) (g2 : Nat), a = ⟨#[rv s (.slice Aa na ca) (.slice Da ma da), .pointer (some ⟨w.heap.size, 0, none⟩), .bool false, .pointer (some ⟨gx, 0, none⟩), .pointer (some ⟨gq, 0, none⟩), undef, .pointer (some ⟨g1, 0, none⟩), .pointer (some ⟨g2, 0, none⟩), undef, .bool true, .bool false, rv s (.slice Aa na ca) (.slice Da ma da), rv s (.slice Aa na ca) (.slice Da ma da), .bool false, rv s (.slice Aa na ca) (.slice Da ma da), rv s (.slice Ax nx cx) (.slice Dx mx dx), rv s (.slice Aa na ca) (.slice Da ma da), rv sq (.slice Aq nq cq) (.slice Dq mq dq), rv s (.slice Ax nx cx) (.slice Dx mx dx), zv s1 (.slice A1 n1 c1), rv s (.slice Ax nx cx) (.slice Dx mx dx), zv s2 (.slice A2 n2 c2), rv s (.slice Ax nx cx) (.slice Dx mx dx), undef, undef, undef, undef, undef, undef, undef, undef, undef, undef, undef, undef, undef, undef, undef, undef, undef, undef, undef, undef, undef, undef, undef, undef, undef, undef, undef, undef, undef, undef, undef, undef, undef, undef, undef, undef], []⟩ ∧ Sg w8.drew.heap.size w8.drew W [zblk, zblk, rblk] [none, some g1, some g2] (fun W => ((True ∧ Zi W (zv s1 (.slice A1 n1 c1)) (r.floor) (12 + 1)) ∧ Zi W (zv s2 (.slice A2 n2 c2)) (-((-r).floor)) (12 + 1)))) ?_ (fun Hs2011 => ?_)
    · rintro a W ⟨s1, A1, n1, c1, s2, A2, n2, c2, g1, g2, rfl, st0⟩
      have hHeld := st0.1
      have st := hide st0
      clear st0
      refine wpAnyH_ready (rs := [5, 6]) (by kernel_rfl) (by simp) ?_
      refine AllReadyH.cons rfl (fun K hK => ?_) ?_
      · go_simp
        go_at_call 30
        refine Calls.mono (frac_r (L := 12) (RAa.out _ _ (R.out.2.1.step st.out.1)) (by omega) (by omega)) ?_
        rintro e wx ⟨v9, rfl, hq, bx⟩
        obtain ⟨s3, A3, n3, c3, D3, m3, d3, rfl, tx⟩ := hq.parts
        clear hq
        try dsimp only
        have st2 := Sg.call (G := fun W => Rc W (rv s3 (.slice A3 n3 c3) (.slice D3 m3 d3)) (r - ((r.floor : Int) : Rat)) (12 + 1)) st.out bx (Firm2.and (Firm2.and Firm2.yes (Firm2.zi _ _ _)) (Firm2.zi _ _ _)) tx
        have hSt := hide st2
        refine hK.out _ _ st2.1 (fun hHeld => ?_)
        clear hK K st2
        (try simp only [Act.put, List.setIfInBounds_toArray, List.set_cons_zero, List.set_cons_succ])
        exact Hs3011.out _ _ ⟨s1, A1, n1, c1, s2, A2, n2, c2, s3, A3, n3, c3, D3, m3, d3, g1, g2, rfl, hSt.out⟩
      refine AllReadyH.cons rfl (fun K hK => ?_) ?_
      · go_simp
        have st2 := Sg.make st.out (Firm2.and (Firm2.and Firm2.yes (Firm2.zi _ _ _)) (Firm2.zi _ _ _)) 0 _ rfl (by simp)
        refine hK.out _ _ st2.1 (fun hHeld => ?_)
        (try simp only [Act.put, List.setIfInBounds_toArray, List.set_cons_zero, List.set_cons_succ])
        exact Hs2111.out _ _ ⟨s1, A1, n1, c1, s2, A2, n2, c2, W.heap.size, g1, g2, rfl, st2⟩
      exact AllReadyH.nil
    refine wpAnyH_with 6 #[true, true, true, true, true, false, false, true, false, false, false, false] (fun a W => ∃ (s1 : Bool) (A1 : Option Addr) (n1 c1 : Nat) (s2 : Bool) (A2 : Option Addr) (n2 c2 : Nat) (g1 : Nat), a = ⟨#[rv s (.slice Aa na ca) (.slice Da ma da), .pointer (some ⟨w.heap.size, 0, none⟩), .bool false, .pointer (some ⟨gx, 0, none⟩), .pointer (some ⟨gq, 0, none⟩), undef, .pointer (some ⟨g1, 0, none⟩), undef, undef, .bool true, .bool false, rv s (.slice Aa na ca) (.slice Da ma da), rv s (.slice Aa na ca) (.slice Da ma da), .bool false, rv s (.slice Aa na ca) (.slice Da ma da), rv s (.slice Ax nx cx) (.slice Dx mx dx), rv s (.slice Aa na ca) (.slice Da ma da), rv sq (.slice Aq nq cq) (.slice Dq mq dq), rv s (.slice Ax nx cx) (.slice Dx mx dx), zv s1 (.slice A1 n1 c1), rv s (.slice Ax nx cx) (.slice Dx mx dx), zv s2 (.slice A2 n2 c2), rv s (.slice Ax nx cx) (.slice Dx mx dx), undef, undef, undef, undef, undef, undef, undef, undef, undef, undef, undef, undef, undef, undef, undef, undef, undef, undef, undef, undef, undef, undef, undef, undef, undef, undef, undef, undef, undef, undef, undef, undef, undef, undef, undef, undef], []⟩ ∧ Sg w8.drew.heap.size w8.drew W [zblk, zblk, rblk] [none, some g1, none] (fun W => ((True ∧ Zi W (zv s1 (.slice A1 n1 c1)) (r.floor) (12 + 1)) ∧ Zi W (zv s2 (.slice A2 n2 c2)) (-((-r).floor)) (12 + 1)))) ?_ (fun Hs2010 => ?_)
    · rintro a W ⟨s1, A1, n1, c1, s2, A2, n2, c2, g1, rfl, st0⟩
      have hHeld := st0.1
      have st := hide st0
      clear st0
      refine wpAnyH_ready (rs := [5, 6, 8]) (by kernel_rfl) (by simp) ?_
      refine AllReadyH.cons rfl (fun K hK => ?_) ?_
      · go_simp
        go_at_call 30
        refine Calls.mono (frac_r (L := 12) (RAa.out _ _ (R.out.2.1.step st.out.1)) (by omega) (by omega)) ?_
        rintro e wx ⟨v9, rfl, hq, bx⟩
        obtain ⟨s3, A3, n3, c3, D3, m3, d3, rfl, tx⟩ := hq.parts
        clear hq
        try dsimp only
        have st2 := Sg.call (G := fun W => Rc W (rv s3 (.slice A3 n3 c3) (.slice D3 m3 d3)) (r - ((r.floor : Int) : Rat)) (12 + 1)) st.out bx (Firm2.and (Firm2.and Firm2.yes (Firm2.zi _ _ _)) (Firm2.zi _ _ _)) tx
        have hSt := hide st2
        refine hK.out _ _ st2.1 (fun hHeld => ?_)
        clear hK K st2
        (try simp only [Act.put, List.setIfInBounds_toArray, List.set_cons_zero, List.set_cons_succ])
        exact Hs3010.out _ _ ⟨s1, A1, n1, c1, s2, A2, n2, c2, s3, A3, n3, c3, D3, m3, d3, g1, rfl, hSt.out⟩
      refine AllReadyH.cons rfl (fun K hK => ?_) ?_
      · go_simp
        have st2 := Sg.make st.out (Firm2.and (Firm2.and Firm2.yes (Firm2.zi _ _ _)) (Firm2.zi _ _ _)) 0 _ rfl (by simp)
        refine hK.out _ _ st2.1 (fun hHeld => ?_)
        (try simp only [Act.put, List.setIfInBounds_toArray, List.set_cons_zero, List.set_cons_succ])
        exact Hs2110.out _ _ ⟨s1, A1, n1, c1, s2, A2, n2, c2, W.heap.size, g1, rfl, st2⟩
      refine AllReadyH.cons rfl (fun K hK => ?_) ?_
      · go_simp
        have st2 := Sg.make st.out (Firm2.and (Firm2.and Firm2.yes (Firm2.zi _ _ _)) (Firm2.zi _ _ _)) 2 _ rfl (by simp)
        refine hK.out _ _ st2.1 (fun hHeld => ?_)
        (try simp only [Act.put, List.setIfInBounds_toArray, List.set_cons_zero, List.set_cons_succ])
        exact Hs2011.out _ _ ⟨s1, A1, n1, c1, s2, A2, n2, c2, g1, W.heap.size, rfl, st2⟩
      exact AllReadyH.nil
    refine wpAnyH_with 6 #[true, true, true, true, true, false, false, false, true, false, false, false] (fun a W => ∃ (s1 : Bool) (A1 : Option Addr) (n1 c1 : Nat) (s2 : Bool) (A2 : Option Addr) (n2 c2 : Nat) (g2 : Nat), a = ⟨#[rv s (.slice Aa na ca) (.slice Da ma da), .pointer (some ⟨w.heap.size, 0, none⟩), .bool false, .pointer (some ⟨gx, 0, none⟩), .pointer (some ⟨gq, 0, none⟩), undef, undef, .pointer (some ⟨g2, 0, none⟩), undef, .bool true, .bool false, rv s (.slice Aa na ca) (.slice Da ma da), rv s (.slice Aa na ca) (.slice Da ma da), .bool false, rv s (.slice Aa na ca) (.slice Da ma da), rv s (.slice Ax nx cx) (.slice Dx mx dx), rv s (.slice Aa na ca) (.slice Da ma da), rv sq (.slice Aq nq cq) (.slice Dq mq dq), rv s (.slice Ax nx cx) (.slice Dx mx dx), zv s1 (.slice A1 n1 c1), rv s (.slice Ax nx cx) (.slice Dx mx dx), zv s2 (.slice A2 n2 c2), rv s (.slice Ax nx cx) (.slice Dx mx dx), undef, undef, undef, undef, undef, undef, undef, undef, undef, undef, undef, undef, undef, undef, undef, undef, undef, undef, undef, undef, undef, undef, undef, undef, undef, undef, undef, undef, undef, undef, undef, undef, undef, undef, undef, undef], []⟩ ∧ Sg w8.drew.heap.size w8.drew W [zblk, zblk, rblk] [none, none, some g2] (fun W => ((True ∧ Zi W (zv s1 (.slice A1 n1 c1)) (r.floor) (12 + 1)) ∧ Zi W (zv s2 (.slice A2 n2 c2)) (-((-r).floor)) (12 + 1)))) ?_ (fun Hs2001 => ?_)
    · rintro a W ⟨s1, A1, n1, c1, s2, A2, n2, c2, g2, rfl, st0⟩
      have hHeld := st0.1
      have st := hide st0
      clear st0
      refine wpAnyH_ready (rs := [5, 6, 7]) (by kernel_rfl) (by simp) ?_
      refine AllReadyH.cons rfl (fun K hK => ?_) ?_
      · go_simp
        go_at_call 30
        refine Calls.mono (frac_r (L := 12) (RAa.out _ _ (R.out.2.1.step st.out.1)) (by omega) (by omega)) ?_
        rintro e wx ⟨v9, rfl, hq, bx⟩
        obtain ⟨s3, A3, n3, c3, D3, m3, d3, rfl, tx⟩ := hq.parts
        clear hq
        try dsimp only
        have st2 := Sg.call (G := fun W => Rc W (rv s3 (.slice A3 n3 c3) (.slice D3 m3 d3)) (r - ((r.floor : Int) : Rat)) (12 + 1)) st.out bx (Firm2.and (Firm2.and Firm2.yes (Firm2.zi _ _ _)) (Firm2.zi _ _ _)) tx
        have hSt := hide st2
        refine hK.out _ _ st2.1 (fun hHeld => ?_)
        clear hK K st2
        (try simp only [Act.put, List.setIfInBounds_toArray, List.set_cons_zero, List.set_cons_succ])
        exact Hs3001.out _ _ ⟨s1, A1, n1, c1, s2, A2, n2, c2, s3, A3, n3, c3, D3, m3, d3, g2, rfl, hSt.out⟩
      refine AllReadyH.cons rfl (fun K hK => ?_) ?_
      · go_simp
        have st2 := Sg.make st.out (Firm2.and (Firm2.and Firm2.yes (Firm2.zi _ _ _)) (Firm2.zi _ _ _)) 0 _ rfl (by simp)
        refine hK.out _ _ st2.1 (fun hHeld => ?_)
        (try simp only [Act.put, List.setIfInBounds_toArray, List.set_cons_zero, List.set_cons_succ])
        exact Hs2101.out _ _ ⟨s1, A1, n1, c1, s2, A2, n2, c2, W.heap.size, g2, rfl, st2⟩
      refine AllReadyH.cons rfl (fun K hK => ?_) ?_
      · go_simp
        have st2 := Sg.make st.out (Firm2.and (Firm2.and Firm2.yes (Firm2.zi _ _ _)) (Firm2.zi _ _ _)) 1 _ rfl (by simp)
        refine hK.out _ _ st2.1 (fun hHeld => ?_)
        (try simp only [Act.put, List.setIfInBounds_toArray, List.set_cons_zero, List.set_cons_succ])
        exact Hs2011.out _ _ ⟨s1, A1, n1, c1, s2, A2, n2, c2, W.heap.size, g2, rfl, st2⟩
      exact AllReadyH.nil
    refine wpAnyH_with 7 #[true, true, true, true, true, false, false, false, false, false, false, false] (fun a W => ∃ (s1 : Bool) (A1 : Option Addr) (n1 c1 : Nat) (s2 : Bool) (A2 : Option Addr) (n2 c2 : Nat), a = ⟨#[rv s (.slice Aa na ca) (.slice Da ma da), .pointer (some ⟨w.heap.size, 0, none⟩), .bool false, .pointer (some ⟨gx, 0, none⟩), .pointer (some ⟨gq, 0, none⟩), undef, undef, undef, undef, .bool true, .bool false, rv s (.slice Aa na ca) (.slice Da ma da), rv s (.slice Aa na ca) (.slice Da ma da), .bool false, rv s (.slice Aa na ca) (.slice Da ma da), rv s (.slice Ax nx cx) (.slice Dx mx dx), rv s (.slice Aa na ca) (.slice Da ma da), rv sq (.slice Aq nq cq) (.slice Dq mq dq), rv s (.slice Ax nx cx) (.slice Dx mx dx), zv s1 (.slice A1 n1 c1), rv s (.slice Ax nx cx) (.slice Dx mx dx), zv s2 (.slice A2 n2 c2), rv s (.slice Ax nx cx) (.slice Dx mx dx), undef, undef, undef, undef, undef, undef, undef, undef, undef, undef, undef, undef, undef, undef, undef, undef, undef, undef, undef, undef, undef, undef, undef, undef, undef, undef, undef, undef, undef, undef, undef, undef, undef, undef, undef, undef], []⟩ ∧ Sg w8.drew.heap.size w8.drew W [zblk, zblk, rblk] [none, none, none] (fun W => ((True ∧ Zi W (zv s1 (.slice A1 n1 c1)) (r.floor) (12 + 1)) ∧ Zi W (zv s2 (.slice A2 n2 c2)) (-((-r).floor)) (12 + 1)))) ?_ (fun Hs2000 => ?_)
    · rintro a W ⟨s1, A1, n1, c1, s2, A2, n2, c2, rfl, st0⟩
      have hHeld := st0.1
      have st := hide st0
      clear st0
      refine wpAnyH_ready (rs := [5, 6, 7, 8]) (by kernel_rfl) (by simp) ?_
      refine AllReadyH.cons rfl (fun K hK => ?_) ?_
      · go_simp
        go_at_call 30
        refine Calls.mono (frac_r (L := 12) (RAa.out _ _ (R.out.2.1.step st.out.1)) (by omega) (by omega)) ?_
        rintro e wx ⟨v9, rfl, hq, bx⟩
        obtain ⟨s3, A3, n3, c3, D3, m3, d3, rfl, tx⟩ := hq.parts
        clear hq
        try dsimp only
        have st2 := Sg.call (G := fun W => Rc W (rv s3 (.slice A3 n3 c3) (.slice D3 m3 d3)) (r - ((r.floor : Int) : Rat)) (12 + 1)) st.out bx (Firm2.and (Firm2.and Firm2.yes (Firm2.zi _ _ _)) (Firm2.zi _ _ _)) tx
        have hSt := hide st2
        refine hK.out _ _ st2.1 (fun hHeld => ?_)
        clear hK K st2
        (try simp only [Act.put, List.setIfInBounds_toArray, List.set_cons_zero, List.set_cons_succ])
        exact Hs3000.out _ _ ⟨s1, A1, n1, c1, s2, A2, n2, c2, s3, A3, n3, c3, D3, m3, d3, rfl, hSt.out⟩
      refine AllReadyH.cons rfl (fun K hK => ?_) ?_
      · go_simp
        have st2 := Sg.make st.out (Firm2.and (Firm2.and Firm2.yes (Firm2.zi _ _ _)) (Firm2.zi _ _ _)) 0 _ rfl (by simp)
        refine hK.out _ _ st2.1 (fun hHeld => ?_)
        (try simp only [Act.put, List.setIfInBounds_toArray, List.set_cons_zero, List.set_cons_succ])
        exact Hs2100.out _ _ ⟨s1, A1, n1, c1, s2, A2, n2, c2, W.heap.size, rfl, st2⟩
      refine AllReadyH.cons rfl (fun K hK => ?_) ?_
      · go_simp
        have st2 := Sg.make st.out (Firm2.and (Firm2.and Firm2.yes (Firm2.zi _ _ _)) (Firm2.zi _ _ _)) 1 _ rfl (by simp)
        refine hK.out _ _ st2.1 (fun hHeld => ?_)
        (try simp only [Act.put, List.setIfInBounds_toArray, List.set_cons_zero, List.set_cons_succ])
        exact Hs2010.out _ _ ⟨s1, A1, n1, c1, s2, A2, n2, c2, W.heap.size, rfl, st2⟩
      refine AllReadyH.cons rfl (fun K hK => ?_) ?_
      · go_simp
        have st2 := Sg.make st.out (Firm2.and (Firm2.and Firm2.yes (Firm2.zi _ _ _)) (Firm2.zi _ _ _)) 2 _ rfl (by simp)
        refine hK.out _ _ st2.1 (fun hHeld => ?_)
        (try simp only [Act.put, List.setIfInBounds_toArray, List.set_cons_zero, List.set_cons_succ])
        exact Hs2001.out _ _ ⟨s1, A1, n1, c1, s2, A2, n2, c2, W.heap.size, rfl, st2⟩
      exact AllReadyH.nil
    refine wpAnyH_with 5 #[true, true, true, false, true, false, true, true, true, false, false, false] (fun a W => ∃ (s1 : Bool) (A1 : Option Addr) (n1 c1 : Nat) (g0 : Nat) (g1 : Nat) (g2 : Nat), a = ⟨#[rv s (.slice Aa na ca) (.slice Da ma da), .pointer (some ⟨w.heap.size, 0, none⟩), .bool false, .pointer (some ⟨gx, 0, none⟩), .pointer (some ⟨gq, 0, none⟩), .pointer (some ⟨g0, 0, none⟩), .pointer (some ⟨g1, 0, none⟩), .pointer (some ⟨g2, 0, none⟩), undef, .bool true, .bool false, rv s (.slice Aa na ca) (.slice Da ma da), rv s (.slice Aa na ca) (.slice Da ma da), .bool false, rv s (.slice Aa na ca) (.slice Da ma da), rv s (.slice Ax nx cx) (.slice Dx mx dx), rv s (.slice Aa na ca) (.slice Da ma da), rv sq (.slice Aq nq cq) (.slice Dq mq dq), rv s (.slice Ax nx cx) (.slice Dx mx dx), zv s1 (.slice A1 n1 c1), rv s (.slice Ax nx cx) (.slice Dx mx dx), undef, rv s (.slice Ax nx cx) (.slice Dx mx dx), undef, undef, undef, undef, undef, undef, undef, undef, undef, undef, undef, undef, undef, undef, undef, undef, undef, undef, undef, undef, undef, undef, undef, undef, undef, undef, undef, undef, undef, undef, undef, undef, undef, undef, undef, undef], []⟩ ∧ Sg w8.drew.heap.size w8.drew W [zblk, zblk, rblk] [some g0, some g1, some g2] (fun W => (True ∧ Zi W (zv s1 (.slice A1 n1 c1)) (r.floor) (12 + 1)))) ?_ (fun Hs1111 => ?_)
    · rintro a W ⟨s1, A1, n1, c1, g0, g1, g2, rfl, st0⟩
      have hHeld := st0.1
      have st := hide st0
      clear st0
      refine wpAnyH_ready (rs := [3]) (by kernel_rfl) (by simp) ?_
      refine AllReadyH.cons rfl (fun K hK => ?_) ?_
      · go_simp
        go_at_call 29
        refine Calls.mono (ceil_r (L := 12) (RAa.out _ _ (R.out.2.1.step st.out.1)) (by omega) (by omega)) ?_
        rintro e wx ⟨v9, rfl, hq, bx⟩
        obtain ⟨s2, A2, n2, c2, rfl, tx⟩ := hq.parts
        clear hq
        try dsimp only
        have st2 := Sg.call (G := fun W => Zi W (zv s2 (.slice A2 n2 c2)) (-((-r).floor)) (12 + 1)) st.out bx (Firm2.and Firm2.yes (Firm2.zi _ _ _)) tx
        have hSt := hide st2
        refine hK.out _ _ st2.1 (fun hHeld => ?_)
        clear hK K st2
        (try simp only [Act.put, List.setIfInBounds_toArray, List.set_cons_zero, List.set_cons_succ])
        exact Hs2111.out _ _ ⟨s1, A1, n1, c1, s2, A2, n2, c2, g0, g1, g2, rfl, hSt.out⟩
      exact AllReadyH.nil
    refine wpAnyH_with 6 #[true, true, true, false, true, false, true, true, false, false, false, false] (fun a W => ∃ (s1 : Bool) (A1 : Option Addr) (n1 c1 : Nat) (g0 : Nat) (g1 : Nat), a = ⟨#[rv s (.slice Aa na ca) (.slice Da ma da), .pointer (some ⟨w.heap.size, 0, none⟩), .bool false, .pointer (some ⟨gx, 0, none⟩), .pointer (some ⟨gq, 0, none⟩), .pointer (some ⟨g0, 0, none⟩), .pointer (some ⟨g1, 0, none⟩), undef, undef, .bool true, .bool false, rv s (.slice Aa na ca) (.slice Da ma da), rv s (.slice Aa na ca) (.slice Da ma da), .bool false, rv s (.slice Aa na ca) (.slice Da ma da), rv s (.slice Ax nx cx) (.slice Dx mx dx), rv s (.slice Aa na ca) (.slice Da ma da), rv sq (.slice Aq nq cq) (.slice Dq mq dq), rv s (.slice Ax nx cx) (.slice Dx mx dx), zv s1 (.slice A1 n1 c1), rv s (.slice Ax nx cx) (.slice Dx mx dx), undef, rv s (.slice Ax nx cx) (.slice Dx mx dx), undef, undef, undef, undef, undef, undef, undef, undef, undef, undef, undef, undef, undef, undef, undef, undef, undef, undef, undef, undef, undef, undef, undef, undef, undef, undef, undef, undef, undef, undef, undef, undef, undef, undef, undef, undef], []⟩ ∧ Sg w8.drew.heap.size w8.drew W [zblk, zblk, rblk] [some g0, some g1, none] (fun W => (True ∧ Zi W (zv s1 (.slice A1 n1 c1)) (r.floor) (12 + 1)))) ?_ (fun Hs1110 => ?_)
    · rintro a W ⟨s1, A1, n1, c1, g0, g1, rfl, st0⟩
      have hHeld := st0.1
      have st := hide st0
      clear st0
      refine wpAnyH_ready (rs := [3, 8]) (by kernel_rfl) (by simp) ?_
      refine AllReadyH.cons rfl (fun K hK => ?_) ?_
      · go_simp
        go_at_call 29
        refine Calls.mono (ceil_r (L := 12) (RAa.out _ _ (R.out.2.1.step st.out.1)) (by omega) (by omega)) ?_
        rintro e wx ⟨v9, rfl, hq, bx⟩
        obtain ⟨s2, A2, n2, c2, rfl, tx⟩ := hq.parts
        clear hq
        try dsimp only
        have st2 := Sg.call (G := fun W => Zi W (zv s2 (.slice A2 n2 c2)) (-((-r).floor)) (12 + 1)) st.out bx (Firm2.and Firm2.yes (Firm2.zi _ _ _)) tx
        have hSt := hide st2
        refine hK.out _ _ st2.1 (fun hHeld => ?_)
        clear hK K st2
        (try simp only [Act.put, List.setIfInBounds_toArray, List.set_cons_zero, List.set_cons_succ])
        exact Hs2110.out _ _ ⟨s1, A1, n1, c1, s2, A2, n2, c2, g0, g1, rfl, hSt.out⟩
      refine AllReadyH.cons rfl (fun K hK => ?_) ?_
      · go_simp
        have st2 := Sg.make st.out (Firm2.and Firm2.yes (Firm2.zi _ _ _)) 2 _ rfl (by simp)
        refine hK.out _ _ st2.1 (fun hHeld => ?_)
        (try simp only [Act.put, List.setIfInBounds_toArray, List.set_cons_zero, List.set_cons_succ])
        exact Hs1111.out _ _ ⟨s1, A1, n1, c1, g0, g1, W.heap.size, rfl, st2⟩
      exact AllReadyH.nil
    refine wpAnyH_with 6 #[true, true, true, false, true, false, true, false, true, false, false, false] (fun a W => ∃ (s1 : Bool) (A1 : Option Addr) (n1 c1 : Nat) (g0 : Nat) (g2 : Nat), a = ⟨#[rv s (.slice Aa na ca) (.slice Da ma da), .pointer (some ⟨w.heap.size, 0, none⟩), .bool false, .pointer (some ⟨gx, 0, none⟩), .pointer (some ⟨gq, 0, none⟩), .pointer (some ⟨g0, 0, none⟩), undef, .pointer (some ⟨g2, 0, none⟩), undef, .bool true, .bool false, rv s (.slice Aa na ca) (.slice Da ma da), rv s (.slice Aa na ca) (.slice Da ma da), .bool false, rv s (.slice Aa na ca) (.slice Da ma da), rv s (.slice Ax nx cx) (.slice Dx mx dx), rv s (.slice Aa na ca) (.slice Da ma da), rv sq (.slice Aq nq cq) (.slice Dq mq dq), rv s (.slice Ax nx cx) (.slice Dx mx dx), zv s1 (.slice A1 n1 c1), rv s (.slice Ax nx cx) (.slice Dx mx dx), undef, rv s (.slice Ax nx cx) (.slice Dx mx dx), undef, undef, undef, undef, undef, undef, undef, undef, undef, undef, undef, undef, undef, undef, undef, undef, undef, undef, undef, undef, undef, undef, undef, undef, undef, undef, undef, undef, undef, undef, undef, undef, undef, undef, undef, undef], []⟩ ∧ Sg w8.drew.heap.size w8.drew W [zblk, zblk, rblk] [some g0, none, some g2] (fun W => (True ∧ Zi W (zv s1 (.slice A1 n1 c1)) (r.floor) (12 + 1)))) ?_ (fun Hs1101 => ?_)
    · rintro a W ⟨s1, A1, n1, c1, g0, g2, rfl, st0⟩
      have hHeld := st0.1
      have st := hide st0
      clear st0
      refine wpAnyH_ready (rs := [3, 7]) (by kernel_rfl) (by simp) ?_
      refine AllReadyH.cons rfl (fun K hK => ?_) ?_
      · go_simp
        go_at_call 29
        refine Calls.mono (ceil_r (L := 12) (RAa.out _ _ (R.out.2.1.step st.out.1)) (by omega) (by omega)) ?_
        rintro e wx ⟨v9, rfl, hq, bx⟩
        obtain ⟨s2, A2, n2, c2, rfl, tx⟩ := hq.parts
        clear hq
        try dsimp only
        have st2 := Sg.call (G := fun W => Zi W (zv s2 (.slice A2 n2 c2)) (-((-r).floor)) (12 + 1)) st.out bx (Firm2.and Firm2.yes (Firm2.zi _ _ _)) tx
        have hSt := hide st2
        refine hK.out _ _ st2.1 (fun hHeld => ?_)
        clear hK K st2
        (try simp only [Act.put, List.setIfInBounds_toArray, List.set_cons_zero, List.set_cons_succ])
        exact Hs2101.out _ _ ⟨s1, A1, n1, c1, s2, A2, n2, c2, g0, g2, rfl, hSt.out⟩
      refine AllReadyH.cons rfl (fun K hK => ?_) ?_
      · go_simp
        have st2 := Sg.make st.out (Firm2.and Firm2.yes (Firm2.zi _ _ _)) 1 _ rfl (by simp)
        refine hK.out _ _ st2.1 (fun hHeld => ?_)
        (try simp only [Act.put, List.setIfInBounds_toArray, List.set_cons_zero, List.set_cons_succ])
        exact Hs1111.out _ _ ⟨s1, A1, n1, c1, g0, W.heap.size, g2, rfl, st2⟩
      exact AllReadyH.nil
    refine wpAnyH_with 7 #[true, true, true, false, true, false, true, false, false, false, false, false] (fun a W => ∃ (s1 : Bool) (A1 : Option Addr) (n1 c1 : Nat) (g0 : Nat), a = ⟨#[rv s (.slice Aa na ca) (.slice Da ma da), .pointer (some ⟨w.heap.size, 0, none⟩), .bool false, .pointer (some ⟨gx, 0, none⟩), .pointer (some ⟨gq, 0, none⟩), .pointer (some ⟨g0, 0, none⟩), undef, undef, undef, .bool true, .bool false, rv s (.slice Aa na ca) (.slice Da ma da), rv s (.slice Aa na ca) (.slice Da ma da), .bool false, rv s (.slice Aa na ca) (.slice Da ma da), rv s (.slice Ax nx cx) (.slice Dx mx dx), rv s (.slice Aa na ca) (.slice Da ma da), rv sq (.slice Aq nq cq) (.slice Dq mq dq), rv s (.slice Ax nx cx) (.slice Dx mx dx), zv s1 (.slice A1 n1 c1), rv s (.slice Ax nx cx) (.slice Dx mx dx), undef, rv s (.slice Ax nx cx) (.slice Dx mx dx), undef, undef, undef, undef, undef, undef, undef, undef, undef, undef, undef, undef, undef, undef, undef, undef, undef, undef, undef, undef, undef, undef, undef, undef, undef, undef, undef, undef, undef, undef, undef, undef, undef, undef, undef, undef], []⟩ ∧ Sg w8.drew.heap.size w8.drew W [zblk, zblk, rblk] [some g0, none, none] (fun W => (True ∧ Zi W (zv s1 (.slice A1 n1 c1)) (r.floor) (12 + 1)))) ?_ (fun Hs1100 => ?_)
    · rintro a W ⟨s1, A1, n1, c1, g0, rfl, st0⟩
      have hHeld := st0.1
      have st := hide st0
      clear st0
      refine wpAnyH_ready (rs := [3, 7, 8]) (by kernel_rfl) (by simp) ?_
      refine AllReadyH.cons rfl (fun K hK => ?_) ?_
      · go_simp
        go_at_call 29
        refine Calls.mono (ceil_r (L := 12) (RAa.out _ _ (R.out.2.1.step st.out.1)) (by omega) (by omega)) ?_
        rintro e wx ⟨v9, rfl, hq, bx⟩
        obtain ⟨s2, A2, n2, c2, rfl, tx⟩ := hq.parts
        clear hq
        try dsimp only
        have st2 := Sg.call (G := fun W => Zi W (zv s2 (.slice A2 n2 c2)) (-((-r).floor)) (12 + 1)) st.out bx (Firm2.and Firm2.yes (Firm2.zi _ _ _)) tx
        have hSt := hide st2
        refine hK.out _ _ st2.1 (fun hHeld => ?_)
        clear hK K st2
        (try simp only [Act.put, List.setIfInBounds_toArray, List.set_cons_zero, List.set_cons_succ])
        exact Hs2100.out _ _ ⟨s1, A1, n1, c1, s2, A2, n2, c2, g0, rfl, hSt.out⟩
      refine AllReadyH.cons rfl (fun K hK => ?_) ?_
      · go_simp
        have st2 := Sg.make st.out (Firm2.and Firm2.yes (Firm2.zi _ _ _)) 1 _ rfl (by simp)
        refine hK.out _ _ st2.1 (fun hHeld => ?_)
        (try simp only [Act.put, List.setIfInBounds_toArray, List.set_cons_zero, List.set_cons_succ])
        exact Hs1110.out _ _ ⟨s1, A1, n1, c1, g0, W.heap.size, rfl, st2⟩
      refine AllReadyH.cons rfl (fun K hK => ?_) ?_
      · go_simp
        have st2 := Sg.make st.out (Firm2.and Firm2.yes (Firm2.zi _ _ _)) 2 _ rfl (by simp)
        refine hK.out _ _ st2.1 (fun hHeld => ?_)
        (try simp only [Act.put, List.setIfInBounds_toArray, List.set_cons_zero, List.set_cons_succ])
        exact Hs1101.out _ _ ⟨s1, A1, n1, c1, g0, W.heap.size, rfl, st2⟩
      exact AllReadyH.nil
    refine wpAnyH_with 6 #[true, true, true, false, true, false, false, true, true, false, false, false] (fun a W => ∃ (s1 : Bool) (A1 : Option Addr) (n1 c1 : Nat) (g1 : Nat) (g2 : Nat), a = ⟨#[rv s (.slice Aa na ca) (.slice Da ma da), .pointer (some ⟨w.heap.size, 0, none⟩), .bool false, .pointer (some ⟨gx, 0, none⟩), .pointer (some ⟨gq, 0, none⟩), undef, .pointer (some ⟨g1, 0, none⟩), .pointer (some ⟨g2, 0, none⟩), undef, .bool true, .bool false, rv s (.slice Aa na ca) (.slice Da ma da), rv s (.slice Aa na ca) (.slice Da ma da), .bool false, rv s (.slice Aa na ca) (.slice Da ma da), rv s (.slice Ax nx cx) (.slice Dx mx dx), rv s (.slice Aa na ca) (.slice Da ma da), rv sq (.slice Aq nq cq) (.slice Dq mq dq), rv s (.slice Ax nx cx) (.slice Dx mx dx), zv s1 (.slice A1 n1 c1), rv s (.slice Ax nx cx) (.slice Dx mx dx), undef, rv s (.slice Ax nx cx) (.slice Dx mx dx), undef, undef, undef, undef, undef, undef, undef, undef, undef, undef, undef, undef, undef, undef, undef, undef, undef, undef, undef, undef, undef, undef, undef, undef, undef, undef, undef, undef, undef, undef, undef, undef, undef, undef, undef, undef], []⟩ ∧ Sg w8.drew.heap.size w8.drew W [zblk, zblk, rblk] [none, some g1, some g2] (fun W => (True ∧ Zi W (zv s1 (.slice A1 n1 c1)) (r.floor) (12 + 1)))) ?_ (fun Hs1011 => ?_)
    · rintro a W ⟨s1, A1, n1, c1, g1, g2, rfl, st0⟩
      have hHeld := st0.1
      have st := hide st0
      clear st0
      refine wpAnyH_ready (rs := [3, 6]) (by kernel_rfl) (by simp) ?_
      refine AllReadyH.cons rfl (fun K hK => ?_) ?_
      · go_simp
        go_at_call 29
        refine Calls.mono (ceil_r (L := 12) (RAa.out _ _ (R.out.2.1.step st.out.1)) (by omega) (by omega)) ?_
        rintro e wx ⟨v9, rfl, hq, bx⟩
        obtain ⟨s2, A2, n2, c2, rfl, tx⟩ := hq.parts
        clear hq
        try dsimp only
        have st2 := Sg.call (G := fun W => Zi W (zv s2 (.slice A2 n2 c2)) (-((-r).floor)) (12 + 1)) st.out bx (Firm2.and Firm2.yes (Firm2.zi _ _ _)) tx
        have hSt := hide st2
        refine hK.out _ _ st2.1 (fun hHeld => ?_)
        clear hK K st2
        (try simp only [Act.put, List.setIfInBounds_toArray, List.set_cons_zero, List.set_cons_succ])
        exact Hs2011.out _ _ ⟨s1, A1, n1, c1, s2, A2, n2, c2, g1, g2, rfl, hSt.out⟩
      refine AllReadyH.cons rfl (fun K hK => ?_) ?_
      · go_simp
        have st2 := Sg.make st.out (Firm2.and Firm2.yes (Firm2.zi _ _ _)) 0 _ rfl (by simp)
        refine hK.out _ _ st2.1 (fun hHeld => ?_)
        (try simp only [Act.put, List.setIfInBounds_toArray, List.set_cons_zero, List.set_cons_succ])
        exact Hs1111.out _ _ ⟨s1, A1, n1, c1, W.heap.size, g1, g2, rfl, st2⟩
      exact AllReadyH.nil
    refine wpAnyH_with 7 #[true, true, true, false, true, false, false, true, false, false, false, false] (fun a W => ∃ (s1 : Bool) (A1 : Option Addr) (n1 c1 : Nat) (g1 : Nat), a = ⟨#[rv s (.slice Aa na ca) (.slice Da ma da), .pointer (some ⟨w.heap.size, 0, none⟩), .bool false, .pointer (some ⟨gx, 0, none⟩), .pointer (some ⟨gq, 0, none⟩), undef, .pointer (some ⟨g1, 0, none⟩), undef, undef, .bool true, .bool false, rv s (.slice Aa na ca) (.slice Da ma da), rv s (.slice Aa na ca) (.slice Da ma da), .bool false, rv s (.slice Aa na ca) (.slice Da ma da), rv s (.slice Ax nx cx) (.slice Dx mx dx), rv s (.slice Aa na ca) (.slice Da ma da), rv sq (.slice Aq nq cq) (.slice Dq mq dq), rv s (.slice Ax nx cx) (.slice Dx mx dx), zv s1 (.slice A1 n1 c1), rv s (.slice Ax nx cx) (.slice Dx mx dx), undef, rv s (.slice Ax nx cx) (.slice Dx mx dx), undef, undef, undef, undef, undef, undef, undef, undef, undef, undef, undef, undef, undef, undef, undef, undef, undef, undef, undef, undef, undef, undef, undef, undef, undef, undef, undef, undef, undef, undef, undef, undef, undef, undef, undef, undef], []⟩ ∧ Sg w8.drew.heap.size w8.drew W [zblk, zblk, rblk] [none, some g1, none] (fun W => (True ∧ Zi W (zv s1 (.slice A1 n1 c1)) (r.floor) (12 + 1)))) ?_ (fun Hs1010 => ?_)
    · rintro a W ⟨s1, A1, n1, c1, g1, rfl, st0⟩
      have hHeld := st0.1
      have st := hide st0
      clear st0
      refine wpAnyH_ready (rs := [3, 6, 8]) (by kernel_rfl) (by simp) ?_
      refine AllReadyH.cons rfl (fun K hK => ?_) ?_
      · go_simp
        go_at_call 29
        refine Calls.mono (ceil_r (L := 12) (RAa.out _ _ (R.out.2.1.step st.out.1)) (by omega) (by omega)) ?_
        rintro e wx ⟨v9, rfl, hq, bx⟩
        obtain ⟨s2, A2, n2, c2, rfl, tx⟩ := hq.parts
        clear hq
        try dsimp only
        have st2 := Sg.call (G := fun W => Zi W (zv s2 (.slice A2 n2 c2)) (-((-r).floor)) (12 + 1)) st.out bx (Firm2.and Firm2.yes (Firm2.zi _ _ _)) tx
        have hSt := hide st2
        refine hK.out _ _ st2.1 (fun hHeld => ?_)
        clear hK K st2
        (try simp only [Act.put, List.setIfInBounds_toArray, List.set_cons_zero, List.set_cons_succ])
        exact Hs2010.out _ _ ⟨s1, A1, n1, c1, s2, A2, n2, c2, g1, rfl, hSt.out⟩
      refine AllReadyH.cons rfl (fun K hK => ?_) ?_
      · go_simp
        have st2 := Sg.make st.out (Firm2.and Firm2.yes (Firm2.zi _ _ _)) 0 _ rfl (by simp)
        refine hK.out _ _ st2.1 (fun hHeld => ?_)
        (try simp only [Act.put, List.setIfInBounds_toArray, List.set_cons_zero, List.set_cons_succ])
        exact Hs1110.out _ _ ⟨s1, A1, n1, c1, W.heap.size, g1, rfl, st2⟩
      refine AllReadyH.cons rfl (fun K hK => ?_) ?_
      · go_simp
        have st2 := Sg.make st.out (Firm2.and Firm2.yes (Firm2.zi _ _ _)) 2 _ rfl (by simp)
        refine hK.out _ _ st2.1 (fun hHeld => ?_)
        (try simp only [Act.put, List.setIfInBounds_toArray, List.set_cons_zero, List.set_cons_succ])
        exact Hs1011.out _ _ ⟨s1, A1, n1, c1, g1, W.heap.size, rfl, st2⟩
      exact AllReadyH.nil
    refine wpAnyH_with 7 #[true, true, true, false, true, false, false, false, true, false, false, false] (fun a W => ∃ (s1 : Bool) (A1 : Option Addr) (n1 c1 : Nat) (g2 : Nat), a = ⟨#[rv s (.slice Aa na ca) (.slice Da ma da), .pointer (some ⟨w.heap.size, 0, none⟩), .bool false, .pointer (some ⟨gx, 0, none⟩), .pointer (some ⟨gq, 0, none⟩), undef, undef, .pointer (some ⟨g2, 0, none⟩), undef, .bool true, .bool false, rv s (.slice Aa na ca) (.slice Da ma da), rv s (.slice Aa na ca) (.slice Da ma da), .bool false, rv s (.slice Aa na ca) (.slice Da ma da), rv s (.slice Ax nx cx) (.slice Dx mx dx), rv s (.slice Aa na ca) (.slice Da ma da), rv sq (.slice Aq nq cq) (.slice Dq mq dq), rv s (.slice Ax nx cx) (.slice Dx mx dx), zv s1 (.slice A1 n1 c1), rv s (.slice Ax nx cx) (.slice Dx mx dx), undef, rv s (.slice Ax nx cx) (.slice Dx mx dx), undef, undef, undef, undef, undef, undef, undef, undef, undef, undef, undef, undef, undef, undef, undef, undef, undef, undef, undef, undef, undef, undef, undef, undef, undef, undef, undef, undef, undef, undef, undef, undef, undef, undef, undef, undef], []⟩ ∧ Sg w8.drew.heap.size w8.drew W [zblk, zblk, rblk] [none, none, some g2] (fun W => (True ∧ Zi W (zv s1 (.slice A1 n1 c1)) (r.floor) (12 + 1)))) ?_ (fun Hs1001 => ?_)
    · rintro a W ⟨s1, A1, n1, c1, g2, rfl, st0⟩
      have hHeld := st0.1
      have st := hide st0
      clear st0
      refine wpAnyH_ready (rs := [3, 6, 7]) (by kernel_rfl) (by simp) ?_
      refine AllReadyH.cons rfl (fun K hK => ?_) ?_
      · go_simp
        go_at_call 29
        refine Calls.mono (ceil_r (L := 12) (RAa.out _ _ (R.out.2.1.step st.out.1)) (by omega) (by omega)) ?_
        rintro e wx ⟨v9, rfl, hq, bx⟩
        obtain ⟨s2, A2, n2, c2, rfl, tx⟩ := hq.parts
        clear hq
        try dsimp only
        have st2 := Sg.call (G := fun W => Zi W (zv s2 (.slice A2 n2 c2)) (-((-r).floor)) (12 + 1)) st.out bx (Firm2.and Firm2.yes (Firm2.zi _ _ _)) tx
        have hSt := hide st2
        refine hK.out _ _ st2.1 (fun hHeld => ?_)
        clear hK K st2
        (try simp only [Act.put, List.setIfInBounds_toArray, List.set_cons_zero, List.set_cons_succ])
        exact Hs2001.out _ _ ⟨s1, A1, n1, c1, s2, A2, n2, c2, g2, rfl, hSt.out⟩
      refine AllReadyH.cons rfl (fun K hK => ?_) ?_
      · go_simp
        have st2 := Sg.make st.out (Firm2.and Firm2.yes (Firm2.zi _ _ _)) 0 _ rfl (by simp)
        refine hK.out _ _ st2.1 (fun hHeld => ?_)
        (try simp only [Act.put, List.setIfInBounds_toArray, List.set_cons_zero, List.set_cons_succ])
        exact Hs1101.out _ _ ⟨s1, A1, n1, c1, W.heap.size, g2, rfl, st2⟩
      refine AllReadyH.cons rfl (fun K hK => ?_) ?_
      · go_simp
        have st2 := Sg.make st.out (Firm2.and Firm2.yes (Firm2.zi _ _ _)) 1 _ rfl (by simp)
        refine hK.out _ _ st2.1 (fun hHeld => ?_)
        (try simp only [Act.put, List.setIfInBounds_toArray, List.set_cons_zero, List.set_cons_succ])
        exact Hs1011.out _ _ ⟨s1, A1, n1, c1, W.heap.size, g2, rfl, st2⟩
      exact AllReadyH.nil
    refine wpAnyH_with 8 #[true, true, true, false, true, false, false, false, false, false, false, false] (fun a W => ∃ (s1 : Bool) (A1 : Option Addr) (n1 c1 : Nat), a = ⟨#[rv s (.slice Aa na ca) (.slice Da ma da), .pointer (some ⟨w.heap.size, 0, none⟩), .bool false, .pointer (some ⟨gx, 0, none⟩), .pointer (some ⟨gq, 0, none⟩), undef, undef, undef, undef, .bool true, .bool false, rv s (.slice Aa na ca) (.slice Da ma da), rv s (.slice Aa na ca) (.slice Da ma da), .bool false, rv s (.slice Aa na ca) (.slice Da ma da), rv s (.slice Ax nx cx) (.slice Dx mx dx), rv s (.slice Aa na ca) (.slice Da ma da), rv sq (.slice Aq nq cq) (.slice Dq mq dq), rv s (.slice Ax nx cx) (.slice Dx mx dx), zv s1 (.slice A1 n1 c1), rv s (.slice Ax nx cx) (.slice Dx mx dx), undef, rv s (.slice Ax nx cx) (.slice Dx mx dx), undef, undef, undef, undef, undef, undef, undef, undef, undef, undef, undef, undef, undef, undef, undef, undef, undef, undef, undef, undef, undef, undef, undef, undef, undef, undef, undef, undef, undef, undef, undef, undef, undef, undef, undef, undef], []⟩ ∧ Sg w8.drew.heap.size w8.drew W [zblk, zblk, rblk] [none, none, none] (fun W => (True ∧ Zi W (zv s1 (.slice A1 n1 c1)) (r.floor) (12 + 1)))) ?_ (fun Hs1000 => ?_)
    · rintro a W ⟨s1, A1, n1, c1, rfl, st0⟩
      have hHeld := st0.1
      have st := hide st0
      clear st0
      refine wpAnyH_ready (rs := [3, 6, 7, 8]) (by kernel_rfl) (by simp) ?_
      refine AllReadyH.cons rfl (fun K hK => ?_) ?_
      · go_simp
        go_at_call 29
        refine Calls.mono (ceil_r (L := 12) (RAa.out _ _ (R.out.2.1.step st.out.1)) (by omega) (by omega)) ?_
        rintro e wx ⟨v9, rfl, hq, bx⟩
        obtain ⟨s2, A2, n2, c2, rfl, tx⟩ := hq.parts
        clear hq
        try dsimp only
        have st2 := Sg.call (G := fun W => Zi W (zv s2 (.slice A2 n2 c2)) (-((-r).floor)) (12 + 1)) st.out bx (Firm2.and Firm2.yes (Firm2.zi _ _ _)) tx
        have hSt := hide st2
        refine hK.out _ _ st2.1 (fun hHeld => ?_)
        clear hK K st2
        (try simp only [Act.put, List.setIfInBounds_toArray, List.set_cons_zero, List.set_cons_succ])
        exact Hs2000.out _ _ ⟨s1, A1, n1, c1, s2, A2, n2, c2, rfl, hSt.out⟩
      refine AllReadyH.cons rfl (fun K hK => ?_) ?_
      · go_simp
        have st2 := Sg.make st.out (Firm2.and Firm2.yes (Firm2.zi _ _ _)) 0 _ rfl (by simp)
        refine hK.out _ _ st2.1 (fun hHeld => ?_)
        (try simp only [Act.put, List.setIfInBounds_toArray, List.set_cons_zero, List.set_cons_succ])
        exact Hs1100.out _ _ ⟨s1, A1, n1, c1, W.heap.size, rfl, st2⟩
      refine AllReadyH.cons rfl (fun K hK => ?_) ?_
      · go_simp
        have st2 := Sg.make st.out (Firm2.and Firm2.yes (Firm2.zi _ _ _)) 1 _ rfl (by simp)
        refine hK.out _ _ st2.1 (fun hHeld => ?_)
        (try simp only [Act.put, List.setIfInBounds_toArray, List.set_cons_zero, List.set_cons_succ])
        exact Hs1010.out _ _ ⟨s1, A1, n1, c1, W.heap.size, rfl, st2⟩
      refine AllReadyH.cons rfl (fun K hK => ?_) ?_
      · go_simp
        have st2 := Sg.make st.out (Firm2.and Firm2.yes (Firm2.zi _ _ _)) 2 _ rfl (by simp)
        refine hK.out _ _ st2.1 (fun hHeld => ?_)
        (try simp only [Act.put, List.setIfInBounds_toArray, List.set_cons_zero, List.set_cons_succ])
        exact Hs1001.out _ _ ⟨s1, A1, n1, c1, W.heap.size, rfl, st2⟩
      exact AllReadyH.nil
    refine wpAnyH_with 6 #[true, false, true, false, true, false, true, true, true, false, false, false] (fun a W => ∃ (g0 : Nat) (g1 : Nat) (g2 : Nat), a = ⟨#[rv s (.slice Aa na ca) (.slice Da ma da), .pointer (some ⟨w.heap.size, 0, none⟩), .bool false, .pointer (some ⟨gx, 0, none⟩), .pointer (some ⟨gq, 0, none⟩), .pointer (some ⟨g0, 0, none⟩), .pointer (some ⟨g1, 0, none⟩), .pointer (some ⟨g2, 0, none⟩), undef, .bool true, .bool false, rv s (.slice Aa na ca) (.slice Da ma da), rv s (.slice Aa na ca) (.slice Da ma da), .bool false, rv s (.slice Aa na ca) (.slice Da ma da), rv s (.slice Ax nx cx) (.slice Dx mx dx), rv s (.slice Aa na ca) (.slice Da ma da), rv sq (.slice Aq nq cq) (.slice Dq mq dq), rv s (.slice Ax nx cx) (.slice Dx mx dx), undef, rv s (.slice Ax nx cx) (.slice Dx mx dx), undef, rv s (.slice Ax nx cx) (.slice Dx mx dx), undef, undef, undef, undef, undef, undef, undef, undef, undef, undef, undef, undef, undef, undef, undef, undef, undef, undef, undef, undef, undef, undef, undef, undef, undef, undef, undef, undef, undef, undef, undef, undef, undef, undef, undef, undef], []⟩ ∧ Sg w8.drew.heap.size w8.drew W [zblk, zblk, rblk] [some g0, some g1, some g2] (fun W => True)) ?_ (fun Hs0111 => ?_)
    · rintro a W ⟨g0, g1, g2, rfl, st0⟩
      have hHeld := st0.1
      have st := hide st0
      clear st0
      refine wpAnyH_ready (rs := [1]) (by kernel_rfl) (by simp) ?_
      refine AllReadyH.cons rfl (fun K hK => ?_) ?_
      · go_simp
        go_at_call 28
        refine Calls.mono (floor_r (L := 12) (RAa.out _ _ (R.out.2.1.step st.out.1)) (by omega) (by omega)) ?_
        rintro e wx ⟨v9, rfl, hq, bx⟩
        obtain ⟨s1, A1, n1, c1, rfl, tx⟩ := hq.parts
        clear hq
        try dsimp only
        have st2 := Sg.call (G := fun W => Zi W (zv s1 (.slice A1 n1 c1)) (r.floor) (12 + 1)) st.out bx Firm2.yes tx
        have hSt := hide st2
        refine hK.out _ _ st2.1 (fun hHeld => ?_)
        clear hK K st2
        (try simp only [Act.put, List.setIfInBounds_toArray, List.set_cons_zero, List.set_cons_succ])
        exact Hs1111.out _ _ ⟨s1, A1, n1, c1, g0, g1, g2, rfl, hSt.out⟩
      exact AllReadyH.nil
    refine wpAnyH_with 7 #[true, false, true, false, true, false, true, true, false, false, false, false] (fun a W => ∃ (g0 : Nat) (g1 : Nat), a = ⟨#[rv s (.slice Aa na ca) (.slice Da ma da), .pointer (some ⟨w.heap.size, 0, none⟩), .bool false, .pointer (some ⟨gx, 0, none⟩), .pointer (some ⟨gq, 0, none⟩), .pointer (some ⟨g0, 0, none⟩), .pointer (some ⟨g1, 0, none⟩), undef, undef, .bool true, .bool false, rv s (.slice Aa na ca) (.slice Da ma da), rv s (.slice Aa na ca) (.slice Da ma da), .bool false, rv s (.slice Aa na ca) (.slice Da ma da), rv s (.slice Ax nx cx) (.slice Dx mx dx), rv s (.slice Aa na ca) (.slice Da ma da), rv sq (.slice Aq nq cq) (.slice Dq mq dq), rv s (.slice Ax nx cx) (.slice Dx mx dx), undef, rv s (.slice Ax nx cx) (.slice Dx mx dx), undef, rv s (.slice Ax nx cx) (.slice Dx mx dx), undef, undef, undef, undef, undef, undef, undef, undef, undef, undef, undef, undef, undef, undef, undef, undef, undef, undef, undef, undef, undef, undef, undef, undef, undef, undef, undef, undef, undef, undef, undef, undef, undef, undef, undef, undef], []⟩ ∧ Sg w8.drew.heap.size w8.drew W [zblk, zblk, rblk] [some g0, some g1, none] (fun W => True)) ?_ (fun Hs0110 => ?_)
    · rintro a W ⟨g0, g1, rfl, st0⟩
      have hHeld := st0.1
      have st := hide st0
      clear st0
      refine wpAnyH_ready (rs := [1, 8]) (by kernel_rfl) (by simp) ?_
      refine AllReadyH.cons rfl (fun K hK => ?_) ?_
      · go_simp
        go_at_call 28
        refine Calls.mono (floor_r (L := 12) (RAa.out _ _ (R.out.2.1.step st.out.1)) (by omega) (by omega)) ?_
        rintro e wx ⟨v9, rfl, hq, bx⟩
        obtain ⟨s1, A1, n1, c1, rfl, tx⟩ := hq.parts
        clear hq
        try dsimp only
        have st2 := Sg.call (G := fun W => Zi W (zv s1 (.slice A1 n1 c1)) (r.floor) (12 + 1)) st.out bx Firm2.yes tx
        have hSt := hide st2
        refine hK.out _ _ st2.1 (fun hHeld => ?_)
        clear hK K st2
        (try simp only [Act.put, List.setIfInBounds_toArray, List.set_cons_zero, List.set_cons_succ])
        exact Hs1110.out _ _ ⟨s1, A1, n1, c1, g0, g1, rfl, hSt.out⟩
      refine AllReadyH.cons rfl (fun K hK => ?_) ?_
      · go_simp
        have st2 := Sg.make st.out Firm2.yes 2 _ rfl (by simp)
        refine hK.out _ _ st2.1 (fun hHeld => ?_)
        (try simp only [Act.put, List.setIfInBounds_toArray, List.set_cons_zero, List.set_cons_succ])
        exact Hs0111.out _ _ ⟨g0, g1, W.heap.size, rfl, st2⟩
      exact AllReadyH.nil
    refine wpAnyH_with 7 #[true, false, true, false, true, false, true, false, true, false, false, false] (fun a W => ∃ (g0 : Nat) (g2 : Nat), a = ⟨#[rv s (.slice Aa na ca) (.slice Da ma da), .pointer (some ⟨w.heap.size, 0, none⟩), .bool false, .pointer (some ⟨gx, 0, none⟩), .pointer (some ⟨gq, 0, none⟩), .pointer (some ⟨g0, 0, none⟩), undef, .pointer (some ⟨g2, 0, none⟩), undef, .bool true, .bool false, rv s (.slice Aa na ca) (.slice Da ma da), rv s (.slice Aa na ca) (.slice Da ma da), .bool false, rv s (.slice Aa na ca) (.slice Da ma da), rv s (.slice Ax nx cx) (.slice Dx mx dx), rv s (.slice Aa na ca) (.slice Da ma da), rv sq (.slice Aq nq cq) (.slice Dq mq dq), rv s (.slice Ax nx cx) (.slice Dx mx dx), undef, rv s (.slice Ax nx cx) (.slice Dx mx dx), undef, rv s (.slice Ax nx cx) (.slice Dx mx dx), undef, undef, undef, undef, undef, undef, undef, undef, undef, undef, undef, undef, undef, undef, undef, undef, undef, undef, undef, undef, undef, undef, undef, undef, undef, undef, undef, undef, undef, undef, undef, undef, undef, undef, undef, undef], []⟩ ∧ Sg w8.drew.heap.size w8.drew W [zblk, zblk, rblk] [some g0, none, some g2] (fun W => True)) ?_ (fun Hs0101 => ?_)
    · rintro a W ⟨g0, g2, rfl, st0⟩
      have hHeld := st0.1
      have st := hide st0
      clear st0
      refine wpAnyH_ready (rs := [1, 7]) (by kernel_rfl) (by simp) ?_
      refine AllReadyH.cons rfl (fun K hK => ?_) ?_
      · go_simp
        go_at_call 28
        refine Calls.mono (floor_r (L := 12) (RAa.out _ _ (R.out.2.1.step st.out.1)) (by omega) (by omega)) ?_
        rintro e wx ⟨v9, rfl, hq, bx⟩
        obtain ⟨s1, A1, n1, c1, rfl, tx⟩ := hq.parts
        clear hq
        try dsimp only
        have st2 := Sg.call (G := fun W => Zi W (zv s1 (.slice A1 n1 c1)) (r.floor) (12 + 1)) st.out bx Firm2.yes tx
        have hSt := hide st2
        refine hK.out _ _ st2.1 (fun hHeld => ?_)
        clear hK K st2
        (try simp only [Act.put, List.setIfInBounds_toArray, List.set_cons_zero, List.set_cons_succ])
        exact Hs1101.out _ _ ⟨s1, A1, n1, c1, g0, g2, rfl, hSt.out⟩
      refine AllReadyH.cons rfl (fun K hK => ?_) ?_
      · go_simp
        have st2 := Sg.make st.out Firm2.yes 1 _ rfl (by simp)
        refine hK.out _ _ st2.1 (fun hHeld => ?_)
        (try simp only [Act.put, List.setIfInBounds_toArray, List.set_cons_zero, List.set_cons_succ])
        exact Hs0111.out _ _ ⟨g0, W.heap.size, g2, rfl, st2⟩
      exact AllReadyH.nil
    refine wpAnyH_with 8 #[true, false, true, false, true, false, true, false, false, false, false, false] (fun a W => ∃ (g0 : Nat), a = ⟨#[rv s (.slice Aa na ca) (.slice Da ma da), .pointer (some ⟨w.heap.size, 0, none⟩), .bool false, .pointer (some ⟨gx, 0, none⟩), .pointer (some ⟨gq, 0, none⟩), .pointer (some ⟨g0, 0, none⟩), undef, undef, undef, .bool true, .bool false, rv s (.slice Aa na ca) (.slice Da ma da), rv s (.slice Aa na ca) (.slice Da ma da), .bool false, rv s (.slice Aa na ca) (.slice Da ma da), rv s (.slice Ax nx cx) (.slice Dx mx dx), rv s (.slice Aa na ca) (.slice Da ma da), rv sq (.slice Aq nq cq) (.slice Dq mq dq), rv s (.slice Ax nx cx) (.slice Dx mx dx), undef, rv s (.slice Ax nx cx) (.slice Dx mx dx), undef, rv s (.slice Ax nx cx) (.slice Dx mx dx), undef, undef, undef, undef, undef, undef, undef, undef, undef, undef, undef, undef, undef, undef, undef, undef, undef, undef, undef, undef, undef, undef, undef, undef, undef, undef, undef, undef, undef, undef, undef, undef, undef, undef, undef, undef], []⟩ ∧ Sg w8.drew.heap.size w8.drew W [zblk, zblk, rblk] [some g0, none, none] (fun W => True)) ?_ (fun Hs0100 => ?_)
    · rintro a W ⟨g0, rfl, st0⟩
      have hHeld := st0.1
      have st := hide st0
      clear st0
      refine wpAnyH_ready (rs := [1, 7, 8]) (by kernel_rfl) (by simp) ?_
      refine AllReadyH.cons rfl (fun K hK => ?_) ?_
      · go_simp
        go_at_call 28
        refine Calls.mono (floor_r (L := 12) (RAa.out _ _ (R.out.2.1.step st.out.1)) (by omega) (by omega)) ?_
        rintro e wx ⟨v9, rfl, hq, bx⟩
        obtain ⟨s1, A1, n1, c1, rfl, tx⟩ := hq.parts
        clear hq
        try dsimp only
        have st2 := Sg.call (G := fun W => Zi W (zv s1 (.slice A1 n1 c1)) (r.floor) (12 + 1)) st.out bx Firm2.yes tx
        have hSt := hide st2
        refine hK.out _ _ st2.1 (fun hHeld => ?_)
        clear hK K st2
        (try simp only [Act.put, List.setIfInBounds_toArray, List.set_cons_zero, List.set_cons_succ])
        exact Hs1100.out _ _ ⟨s1, A1, n1, c1, g0, rfl, hSt.out⟩
      refine AllReadyH.cons rfl (fun K hK => ?_) ?_
      · go_simp
        have st2 := Sg.make st.out Firm2.yes 1 _ rfl (by simp)
        refine hK.out _ _ st2.1 (fun hHeld => ?_)
        (try simp only [Act.put, List.setIfInBounds_toArray, List.set_cons_zero, List.set_cons_succ])
        exact Hs0110.out _ _ ⟨g0, W.heap.size, rfl, st2⟩
      refine AllReadyH.cons rfl (fun K hK => ?_) ?_
      · go_simp
        have st2 := Sg.make st.out Firm2.yes 2 _ rfl (by simp)
        refine hK.out _ _ st2.1 (fun hHeld => ?_)
        (try simp only [Act.put, List.setIfInBounds_toArray, List.set_cons_zero, List.set_cons_succ])
        exact Hs0101.out _ _ ⟨g0, W.heap.size, rfl, st2⟩
      exact AllReadyH.nil
    refine wpAnyH_with 7 #[true, false, true, false, true, false, false, true, true, false, false, false] (fun a W => ∃ (g1 : Nat) (g2 : Nat), a = ⟨#[rv s (.slice Aa na ca) (.slice Da ma da), .pointer (some ⟨w.heap.size, 0, none⟩), .bool false, .pointer (some ⟨gx, 0, none⟩), .pointer (some ⟨gq, 0, none⟩), undef, .pointer (some ⟨g1, 0, none⟩), .pointer (some ⟨g2, 0, none⟩), undef, .bool true, .bool false, rv s (.slice Aa na ca) (.slice Da ma da), rv s (.slice Aa na ca) (.slice Da ma da), .bool false, rv s (.slice Aa na ca) (.slice Da ma da), rv s (.slice Ax nx cx) (.slice Dx mx dx), rv s (.slice Aa na ca) (.slice Da ma da), rv sq (.slice Aq nq cq) (.slice Dq mq dq), rv s (.slice Ax nx cx) (.slice Dx mx dx), undef, rv s (.slice Ax nx cx) (.slice Dx mx dx), undef, rv s (.slice Ax nx cx) (.slice Dx mx dx), undef, undef, undef, undef, undef, undef, undef, undef, undef, undef, undef, undef, undef, undef, undef, undef, undef, undef, undef, undef, undef, undef, undef, undef, undef, undef, undef, undef, undef, undef, undef, undef, undef, undef, undef, undef], []⟩ ∧ Sg w8.drew.heap.size w8.drew W [zblk, zblk, rblk] [none, some g1, some g2] (fun W => True)) ?_ (fun Hs0011 => ?_)
    · rintro a W ⟨g1, g2, rfl, st0⟩
      have hHeld := st0.1
      have st := hide st0
      clear st0
      refine wpAnyH_ready (rs := [1, 6]) (by kernel_rfl) (by simp) ?_
      refine AllReadyH.cons rfl (fun K hK => ?_) ?_
      · go_simp
        go_at_call 28
        refine Calls.mono (floor_r (L := 12) (RAa.out _ _ (R.out.2.1.step st.out.1)) (by omega) (by omega)) ?_
        rintro e wx ⟨v9, rfl, hq, bx⟩
        obtain ⟨s1, A1, n1, c1, rfl, tx⟩ := hq.parts
        clear hq
        try dsimp only
        have st2 := Sg.call (G := fun W => Zi W (zv s1 (.slice A1 n1 c1)) (r.floor) (12 + 1)) st.out bx Firm2.yes tx
        have hSt := hide st2
        refine hK.out _ _ st2.1 (fun hHeld => ?_)
        clear hK K st2
        (try simp only [Act.put, List.setIfInBounds_toArray, List.set_cons_zero, List.set_cons_succ])
        exact Hs1011.out _ _ ⟨s1, A1, n1, c1, g1, g2, rfl, hSt.out⟩
      refine AllReadyH.cons rfl (fun K hK => ?_) ?_
      · go_simp
        have st2 := Sg.make st.out Firm2.yes 0 _ rfl (by simp)
        refine hK.out _ _ st2.1 (fun hHeld => ?_)
        (try simp only [Act.put, List.setIfInBounds_toArray, List.set_cons_zero, List.set_cons_succ])
        exact Hs0111.out _ _ ⟨W.heap.size, g1, g2, rfl, st2⟩
      exact AllReadyH.nil
    refine wpAnyH_with 8 #[true, false, true, false, true, false, false, true, false, false, false, false] (fun a W => ∃ (g1 : Nat), a = ⟨#[rv s (.slice Aa na ca) (.slice Da ma da), .pointer (some ⟨w.heap.size, 0, none⟩), .bool false, .pointer (some ⟨gx, 0, none⟩), .pointer (some ⟨gq, 0, none⟩), undef, .pointer (some ⟨g1, 0, none⟩), undef, undef, .bool true, .bool false, rv s (.slice Aa na ca) (.slice Da ma da), rv s (.slice Aa na ca) (.slice Da ma da), .bool false, rv s (.slice Aa na ca) (.slice Da ma da), rv s (.slice Ax nx cx) (.slice Dx mx dx), rv s (.slice Aa na ca) (.slice Da ma da), rv sq (.slice Aq nq cq) (.slice Dq mq dq), rv s (.slice Ax nx cx) (.slice Dx mx dx), undef, rv s (.slice Ax nx cx) (.slice Dx mx dx), undef, rv s (.slice Ax nx cx) (.slice Dx mx dx), undef, undef, undef, undef, undef, undef, undef, undef, undef, undef, undef, undef, undef, undef, undef, undef, undef, undef, undef, undef, undef, undef, undef, undef, undef, undef, undef, undef, undef, undef, undef, undef, undef, undef, undef, undef], []⟩ ∧ Sg w8.drew.heap.size w8.drew W [zblk, zblk, rblk] [none, some g1, none] (fun W => True)) ?_ (fun Hs0010 => ?_)
    · rintro a W ⟨g1, rfl, st0⟩
      have hHeld := st0.1
      have st := hide st0
      clear st0
      refine wpAnyH_ready (rs := [1, 6, 8]) (by kernel_rfl) (by simp) ?_
      refine AllReadyH.cons rfl (fun K hK => ?_) ?_
      · go_simp
        go_at_call 28
        refine Calls.mono (floor_r (L := 12) (RAa.out _ _ (R.out.2.1.step st.out.1)) (by omega) (by omega)) ?_
        rintro e wx ⟨v9, rfl, hq, bx⟩
        obtain ⟨s1, A1, n1, c1, rfl, tx⟩ := hq.parts
        clear hq
        try dsimp only
        have st2 := Sg.call (G := fun W => Zi W (zv s1 (.slice A1 n1 c1)) (r.floor) (12 + 1)) st.out bx Firm2.yes tx
        have hSt := hide st2
        refine hK.out _ _ st2.1 (fun hHeld => ?_)
        clear hK K st2
        (try simp only [Act.put, List.setIfInBounds_toArray, List.set_cons_zero, List.set_cons_succ])
        exact Hs1010.out _ _ ⟨s1, A1, n1, c1, g1, rfl, hSt.out⟩
      refine AllReadyH.cons rfl (fun K hK => ?_) ?_
      · go_simp
        have st2 := Sg.make st.out Firm2.yes 0 _ rfl (by simp)
        refine hK.out _ _ st2.1 (fun hHeld => ?_)
        (try simp only [Act.put, List.setIfInBounds_toArray, List.set_cons_zero, List.set_cons_succ])
        exact Hs0110.out _ _ ⟨W.heap.size, g1, rfl, st2⟩
      refine AllReadyH.cons rfl (fun K hK => ?_) ?_
      · go_simp
        have st2 := Sg.make st.out Firm2.yes 2 _ rfl (by simp)
        refine hK.out _ _ st2.1 (fun hHeld => ?_)
        (try simp only [Act.put, List.setIfInBounds_toArray, List.set_cons_zero, List.set_cons_succ])
        exact Hs0011.out _ _ ⟨g1, W.heap.size, rfl, st2⟩
      exact AllReadyH.nil
    refine wpAnyH_with 8 #[true, false, true, false, true, false, false, false, true, false, false, false] (fun a W => ∃ (g2 : Nat), a = ⟨#[rv s (.slice Aa na ca) (.slice Da ma da), .pointer (some ⟨w.heap.size, 0, none⟩), .bool false, .pointer (some ⟨gx, 0, none⟩), .pointer (some ⟨gq, 0, none⟩), undef, undef, .pointer (some ⟨g2, 0, none⟩), undef, .bool true, .bool false, rv s (.slice Aa na ca) (.slice Da ma da), rv s (.slice Aa na ca) (.slice Da ma da), .bool false, rv s (.slice Aa na ca) (.slice Da ma da), rv s (.slice Ax nx cx) (.slice Dx mx dx), rv s (.slice Aa na ca) (.slice Da ma da), rv sq (.slice Aq nq cq) (.slice Dq mq dq), rv s (.slice Ax nx cx) (.slice Dx mx dx), undef, rv s (.slice Ax nx cx) (.slice Dx mx dx), undef, rv s (.slice Ax nx cx) (.slice Dx mx dx), undef, undef, undef, undef, undef, undef, undef, undef, undef, undef, undef, undef, undef, undef, undef, undef, undef, undef, undef, undef, undef, undef, undef, undef, undef, undef, undef, undef, undef, undef, undef, undef, undef, undef, undef, undef], []⟩ ∧ Sg w8.drew.heap.size w8.drew W [zblk, zblk, rblk] [none, none, some g2] (fun W => True)) ?_ (fun Hs0001 => ?_)
    · rintro a W ⟨g2, rfl, st0⟩
      have hHeld := st0.1
      have st := hide st0
      clear st0
      refine wpAnyH_ready (rs := [1, 6, 7]) (by kernel_rfl) (by simp) ?_
      refine AllReadyH.cons rfl (fun K hK => ?_) ?_
      · go_simp
        go_at_call 28
        refine Calls.mono (floor_r (L := 12) (RAa.out _ _ (R.out.2.1.step st.out.1)) (by omega) (by omega)) ?_
        rintro e wx ⟨v9, rfl, hq, bx⟩
        obtain ⟨s1, A1, n1, c1, rfl, tx⟩ := hq.parts
        clear hq
        try dsimp only
        have st2 := Sg.call (G := fun W => Zi W (zv s1 (.slice A1 n1 c1)) (r.floor) (12 + 1)) st.out bx Firm2.yes tx
        have hSt := hide st2
        refine hK.out _ _ st2.1 (fun hHeld => ?_)
        clear hK K st2
        (try simp only [Act.put, List.setIfInBounds_toArray, List.set_cons_zero, List.set_cons_succ])
        exact Hs1001.out _ _ ⟨s1, A1, n1, c1, g2, rfl, hSt.out⟩
      refine AllReadyH.cons rfl (fun K hK => ?_) ?_
      · go_simp
        have st2 := Sg.make st.out Firm2.yes 0 _ rfl (by simp)
        refine hK.out _ _ st2.1 (fun hHeld => ?_)
        (try simp only [Act.put, List.setIfInBounds_toArray, List.set_cons_zero, List.set_cons_succ])
        exact Hs0101.out _ _ ⟨W.heap.size, g2, rfl, st2⟩
      refine AllReadyH.cons rfl (fun K hK => ?_) ?_
      · go_simp
        have st2 := Sg.make st.out Firm2.yes 1 _ rfl (by simp)
        refine hK.out _ _ st2.1 (fun hHeld => ?_)
        (try simp only [Act.put, List.setIfInBounds_toArray, List.set_cons_zero, List.set_cons_succ])
        exact Hs0011.out _ _ ⟨W.heap.size, g2, rfl, st2⟩
      exact AllReadyH.nil
    refine wpAnyH_take (i := 0) (v := ?_) rfl (by kernel_rfl) (by kernel_rfl) (by kernel_rfl) (fun _ _ _ h => h) (Or.inl ⟨?_, ?_⟩) (by assumption) ?_
    rotate_left
    · rfl
    · (intro w hSw; have e0 := cell_keep P.out.2.1.1 hSw; have e1 := cell_keep P.out.2.1.2.1 hSw; have e2 := cell_keep P.out.2.1.2.2 hSw; go_simp; try with_reducible rfl)
    (try simp only [Act.put, List.setIfInBounds_toArray, List.set_cons_zero, List.set_cons_succ])
    refine wpAnyH_take (i := 2) (v := ?_) rfl (by kernel_rfl) (by kernel_rfl) (by kernel_rfl) (fun _ _ _ h => h) (Or.inl ⟨?_, ?_⟩) (by assumption) ?_
    rotate_left
    · rfl
    · (intro w hSw; have e0 := cell_keep P.out.2.1.1 hSw; have e1 := cell_keep P.out.2.1.2.1 hSw; have e2 := cell_keep P.out.2.1.2.2 hSw; go_simp; try with_reducible rfl)
    (try simp only [Act.put, List.setIfInBounds_toArray, List.set_cons_zero, List.set_cons_succ])
    refine wpAnyH_take (i := 4) (v := ?_) rfl (by kernel_rfl) (by kernel_rfl) (by kernel_rfl) (fun _ _ _ h => h) (Or.inl ⟨?_, ?_⟩) (by assumption) ?_
    rotate_left
    · rfl
    · (intro w hSw; have e0 := cell_keep P.out.2.1.1 hSw; have e1 := cell_keep P.out.2.1.2.1 hSw; have e2 := cell_keep P.out.2.1.2.2 hSw; go_simp; try with_reducible rfl)
    (try simp only [Act.put, List.setIfInBounds_toArray, List.set_cons_zero, List.set_cons_succ])
    refine wpAnyH_with 9 #[true, false, true, false, true, false, false, false, false, false, false, false] (fun a W => a = ⟨#[rv s (.slice Aa na ca) (.slice Da ma da), .pointer (some ⟨w.heap.size, 0, none⟩), .bool false, .pointer (some ⟨gx, 0, none⟩), .pointer (some ⟨gq, 0, none⟩), undef, undef, undef, undef, .bool true, .bool false, rv s (.slice Aa na ca) (.slice Da ma da), rv s (.slice Aa na ca) (.slice Da ma da), .bool false, rv s (.slice Aa na ca) (.slice Da ma da), rv s (.slice Ax nx cx) (.slice Dx mx dx), rv s (.slice Aa na ca) (.slice Da ma da), rv sq (.slice Aq nq cq) (.slice Dq mq dq), rv s (.slice Ax nx cx) (.slice Dx mx dx), undef, rv s (.slice Ax nx cx) (.slice Dx mx dx), undef, rv s (.slice Ax nx cx) (.slice Dx mx dx), undef, undef, undef, undef, undef, undef, undef, undef, undef, undef, undef, undef, undef, undef, undef, undef, undef, undef, undef, undef, undef, undef, undef, undef, undef, undef, undef, undef, undef, undef, undef, undef, undef, undef, undef, undef], []⟩ ∧ Sg w8.drew.heap.size w8.drew W [zblk, zblk, rblk] [none, none, none] (fun W => True)) ?_ (fun Hs => Hs.out _ _ ⟨rfl, Sg.start _ _ 3⟩)
    rintro a W ⟨rfl, st0⟩
    have hHeld := st0.1
    have st := hide st0
    clear st0
    refine wpAnyH_ready (rs := [1, 6, 7, 8]) (by kernel_rfl) (by simp) ?_
    refine AllReadyH.cons rfl (fun K hK => ?_) ?_
    · go_simp
      go_at_call 28
      refine Calls.mono (floor_r (L := 12) (RAa.out _ _ (R.out.2.1.step st.out.1)) (by omega) (by omega)) ?_
      rintro e wx ⟨v9, rfl, hq, bx⟩
      obtain ⟨s1, A1, n1, c1, rfl, tx⟩ := hq.parts
      clear hq
      try dsimp only
      have st2 := Sg.call (G := fun W => Zi W (zv s1 (.slice A1 n1 c1)) (r.floor) (12 + 1)) st.out bx Firm2.yes tx
      have hSt := hide st2
      refine hK.out _ _ st2.1 (fun hHeld => ?_)
      clear hK K st2
      (try simp only [Act.put, List.setIfInBounds_toArray, List.set_cons_zero, List.set_cons_succ])
      exact Hs1000.out _ _ ⟨s1, A1, n1, c1, rfl, hSt.out⟩
    refine AllReadyH.cons rfl (fun K hK => ?_) ?_
    · go_simp
      have st2 := Sg.make st.out Firm2.yes 0 _ rfl (by simp)
      refine hK.out _ _ st2.1 (fun hHeld => ?_)
      (try simp only [Act.put, List.setIfInBounds_toArray, List.set_cons_zero, List.set_cons_succ])
      exact Hs0100.out _ _ ⟨W.heap.size, rfl, st2⟩
    refine AllReadyH.cons rfl (fun K hK => ?_) ?_
    · go_simp
      have st2 := Sg.make st.out Firm2.yes 1 _ rfl (by simp)
      refine hK.out _ _ st2.1 (fun hHeld => ?_)
      (try simp only [Act.put, List.setIfInBounds_toArray, List.set_cons_zero, List.set_cons_succ])
      exact Hs0010.out _ _ ⟨W.heap.size, rfl, st2⟩
    refine AllReadyH.cons rfl (fun K hK => ?_) ?_
    · go_simp
      have st2 := Sg.make st.out Firm2.yes 2 _ rfl (by simp)
      refine hK.out _ _ st2.1 (fun hHeld => ?_)
      (try simp only [Act.put, List.setIfInBounds_toArray, List.set_cons_zero, List.set_cons_succ])
      exact Hs0001.out _ _ ⟨W.heap.size, rfl, st2⟩
    exact AllReadyH.nil
end Go.Proofs.Ytpcchagnbkohnaa
