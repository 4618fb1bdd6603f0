/-
  The walk of RatField: true.
-/
import Derived.Test.YtpcchagnbkohnaaRatOrderW

namespace Go.Proofs.Ytpcchagnbkohnaa
open Go.RowKit Go.Proofs.Ytpcchagnbkohnaa.Num
set_option linter.unusedVariables false
set_option linter.unusedSimpArgs false
set_option maxRecDepth 100000

set_option maxHeartbeats 16000000 in
theorem ratfield_true (w : World) (sa : Bool) (ua ta : Value) (sb : Bool) (ub tb : Value) (sc : Bool) (uc tc : Value) (xa ya xb yb xc yc : Nat) (hua : Nw w ua xa 1048576) (hva : Nw w ta ya 1048576) (hub : Nw w ub xb 1048576) (hvb : Nw w tb yb 1048576) (huc : Nw w uc xc 1048576) (hvc : Nw w tc yc 1048576) :
    Calls Try.prog 7 #[rv sa ua ta, rv sb ub tb, rv sc uc tc] w fun e w' => e = .returned (.bool true) ∧ Below w.heap.size w w' := by
  obtain ⟨Aa, na, ca, rfl⟩ := hua.slice
  obtain ⟨Da, ma, da, rfl⟩ := hva.slice
  obtain ⟨ra, hra⟩ : ∃ r, mkRat (zi sa xa) (dn ya) = r := ⟨_, rfl⟩
  have ha : Ra w (rv sa (.slice Aa na ca) (.slice Da ma da)) ra 1048576 := ⟨sa, _, _, xa, ya, rfl, hua, hva, hra.symm⟩
  obtain ⟨Ab, nb, cb, rfl⟩ := hub.slice
  obtain ⟨Db, mb, db, rfl⟩ := hvb.slice
  obtain ⟨rb, hrb⟩ : ∃ r, mkRat (zi sb xb) (dn yb) = r := ⟨_, rfl⟩
  have hb : Ra w (rv sb (.slice Ab nb cb) (.slice Db mb db)) rb 1048576 := ⟨sb, _, _, xb, yb, rfl, hub, hvb, hrb.symm⟩
  obtain ⟨Ac, nc, cc, rfl⟩ := huc.slice
  obtain ⟨Dc, mc, dc, rfl⟩ := hvc.slice
  obtain ⟨rc, hrc⟩ : ∃ r, mkRat (zi sc xc) (dn yc) = r := ⟨_, rfl⟩
  have hc : Ra w (rv sc (.slice Ac nc cc) (.slice Dc mc dc)) rc 1048576 := ⟨sc, _, _, xc, yc, rfl, huc, hvc, hrc.symm⟩
  obtain ⟨b1, y1, y2, y3⟩ := f_world3r w sa sb sc Aa Da Ab Db Ac Dc na ca ma da nb cb mb db nc cc mc dc
  have R := hide (And.intro (ha.step b1) (And.intro (hb.step b1) (hc.step b1)))
  have B := hide b1
  have P := hide (And.intro y1 (And.intro y2 y3))
  clear hua hva hub hvb huc hvc hra hrb hrc ha hb hc b1 y1 y2 y3
  obtain ⟨o1, ho1⟩ : ∃ o, Hid (cmpR ra rb = o) := ⟨_, hide rfl⟩
  have hsum : Hid (cmpR (ra + rc) (rb + rc) = o1) := hide (by rw [cmpR_add]; exact ho1.out)
  have hdis : Hid (ra * rb + ra * rc = ra * (rb + rc)) := hide (by grind)
  have hback : Hid (ra + rb - rb = ra) := hide (by grind)
  have hw3 : (o1 != o1) = false := by simp
  obtain ⟨hl1, hl2⟩ := flo ra
  obtain ⟨o2, ho2⟩ : ∃ o, Hid (cmpR (ra.floor : Rat) ra = o) := ⟨_, hide rfl⟩
  have hle : decide (o2 ≤ 0) = true := decide_eq_true (by rw [← ho2.out]; exact cmpR_le.2 hl1)
  have hfr : Hid (cmpR (ra - (ra.floor : Rat)) ((1 : Int) : Rat) = -1) := hide (cmpR_lt (by rw [show ((1 : Int) : Rat) = 1 from rfl]; grind))
  clear hl1 hl2
  go_enter Try.func7, Try.ntmps7
  go_wp2_with fail
  refine (rspeaks_true _).mono ?_
  rintro e w1 ⟨rfl, bx0⟩
  have bx := Below.step1 bx0 (Below.drew (Below.refl w1.heap.size w1))
  replace P := hide ((And.intro (P.out.1.step bx) (And.intro (P.out.2.1.step bx) (P.out.2.2.step bx))))
  replace R := hide ((And.intro (R.out.1.step bx) (And.intro (R.out.2.1.step bx) (R.out.2.2.step bx))))
  replace B := hide (Below.step B.out B.out.size bx)
  clear bx bx0
  go_wp2_with fail
  refine wp_region_held_drew (S := fun W => Below w1.drew.heap.size w1.drew W) (by kernel_rfl) (Below.refl _ _) (fun hHeld => ?_)
  refine wpAnyH_with 2 #[true, true, true, true, true, true, true, true, true, true, true, true, true, true, false, false] (fun a W => ∃ (s1 : Bool) (A1 : Option Addr) (n1 c1 : Nat) (D1 : Option Addr) (m1 d1 : Nat) (s2 : Bool) (A2 : Option Addr) (n2 c2 : Nat) (D2 : Option Addr) (m2 d2 : Nat) (s3 : Bool) (A3 : Option Addr) (n3 c3 : Nat) (D3 : Option Addr) (m3 d3 : Nat) (s4 : Bool) (A4 : Option Addr) (n4 c4 : Nat) (D4 : Option Addr) (m4 d4 : Nat) (s5 : Bool) (A5 : Option Addr) (n5 c5 : Nat) (D5 : Option Addr) (m5 d5 : Nat) (g0 : Nat) (g1 : Nat), a = ⟨#[rv sa (.slice Aa na ca) (.slice Da ma da), rv sb (.slice Ab nb cb) (.slice Db mb db), rv sc (.slice Ac nc cc) (.slice Dc mc dc), .pointer (some ⟨w.heap.size, 0, none⟩), .pointer (some ⟨w.heap.size + 1, 0, none⟩), .pointer (some ⟨w.heap.size + 1 + 1, 0, none⟩), .bool false, .pointer (some ⟨g0, 0, none⟩), .pointer (some ⟨g1, 0, none⟩), undef, undef, .bool true, .bool false, rv sa (.slice Aa na ca) (.slice Da ma da), rv sb (.slice Ab nb cb) (.slice Db mb db), rv sc (.slice Ac nc cc) (.slice Dc mc dc), rv s1 (.slice A1 n1 c1) (.slice D1 m1 d1), rv s2 (.slice A2 n2 c2) (.slice D2 m2 d2), rv sa (.slice Aa na ca) (.slice Da ma da), rv sb (.slice Ab nb cb) (.slice Db mb db), rv s3 (.slice A3 n3 c3) (.slice D3 m3 d3), rv sa (.slice Aa na ca) (.slice Da ma da), rv sc (.slice Ac nc cc) (.slice Dc mc dc), rv s4 (.slice A4 n4 c4) (.slice D4 m4 d4), rv s5 (.slice A5 n5 c5) (.slice D5 m5 d5), undef, undef, undef, undef, undef, undef, undef, undef, undef, undef, undef, undef, undef, undef, undef, undef, undef, undef, undef, undef, undef, undef, undef, undef, undef, undef, undef, undef, undef, undef, undef, undef, undef, undef, undef, undef, undef, undef, undef, undef, undef, undef, undef, undef, undef, undef, undef, undef, undef, undef, undef, undef, undef, undef, undef, undef, undef, undef, undef, undef, undef, undef, undef, undef], []⟩ ∧ Sg w1.drew.heap.size w1.drew W [rblk, rblk] [some g0, some g1] (fun W => (((((True ∧ Rc W (rv s1 (.slice A1 n1 c1) (.slice D1 m1 d1)) (rb + rc) (2 * 1048576 + 1)) ∧ Rc W (rv s2 (.slice A2 n2 c2) (.slice D2 m2 d2)) (ra * (rb + rc)) (2 * (2 * 1048576 + 1))) ∧ Rc W (rv s3 (.slice A3 n3 c3) (.slice D3 m3 d3)) (ra * rb) (2 * 1048576)) ∧ Rc W (rv s4 (.slice A4 n4 c4) (.slice D4 m4 d4)) (ra * rc) (2 * 1048576)) ∧ Rc W (rv s5 (.slice A5 n5 c5) (.slice D5 m5 d5)) (ra * rb + ra * rc) (2 * (2 * 1048576) + 1)))) ?_ (fun Hs511 => ?_)
  · rintro a W ⟨s1, A1, n1, c1, D1, m1, d1, s2, A2, n2, c2, D2, m2, d2, s3, A3, n3, c3, D3, m3, d3, s4, A4, n4, c4, D4, m4, d4, s5, A5, n5, c5, D5, m5, d5, g0, g1, rfl, st0⟩
    have hHeld := st0.1
    have st := hide st0
    clear st0
    obtain ⟨k0, f0⟩ := Sg.cells st.out 0 g0 #[.bool false, .slice none 0 0, .slice none 0 0] 28 rfl rfl 0
    obtain ⟨k1, f1⟩ := Sg.cells st.out 0 g0 #[.bool false, .slice none 0 0, .slice none 0 0] 28 rfl rfl 1
    obtain ⟨k2, f2⟩ := Sg.cells st.out 0 g0 #[.bool false, .slice none 0 0, .slice none 0 0] 28 rfl rfl 2
    simp only [List.getElem?_toArray, List.getElem?_cons_zero, List.getElem?_cons_succ] at k0
    simp only [List.getElem?_toArray, List.getElem?_cons_zero, List.getElem?_cons_succ] at k1
    simp only [List.getElem?_toArray, List.getElem?_cons_zero, List.getElem?_cons_succ] at k2
    have st9 := st.out
    have st9 := Sg.put st9 (Firm2.and (Firm2.and (Firm2.and (Firm2.and (Firm2.and Firm2.yes (Firm2.rc _ _ _)) (Firm2.rc _ _ _)) (Firm2.rc _ _ _)) (Firm2.rc _ _ _)) (Firm2.rc _ _ _)) 0 g0 0 _ 28 (.bool s2) rfl rfl rfl
    have st9 := Sg.put st9 (Firm2.and (Firm2.and (Firm2.and (Firm2.and (Firm2.and Firm2.yes (Firm2.rc _ _ _)) (Firm2.rc _ _ _)) (Firm2.rc _ _ _)) (Firm2.rc _ _ _)) (Firm2.rc _ _ _)) 0 g0 1 _ 28 (.slice A2 n2 c2) rfl rfl rfl
    have st9 := Sg.put st9 (Firm2.and (Firm2.and (Firm2.and (Firm2.and (Firm2.and Firm2.yes (Firm2.rc _ _ _)) (Firm2.rc _ _ _)) (Firm2.rc _ _ _)) (Firm2.rc _ _ _)) (Firm2.rc _ _ _)) 0 g0 2 _ 28 (.slice D2 m2 d2) rfl rfl rfl
    have st8 := hide st9
    clear st9
    refine wpAnyH_ready (rs := [14]) (by kernel_rfl) (by simp) ?_
    refine AllReadyH.cons rfl (fun K hK => ?_) ?_
    rotate_left
    · exact AllReadyH.nil
    go_simp
    refine hK.out _ _ st8.out.1 (fun hHeld => ?_)
    clear hK K k0 f0 k1 f1 k2 f2 st
    (try simp only [Act.put, List.setIfInBounds_toArray, List.set_cons_zero, List.set_cons_succ])
    generalize (((W.setCell ⟨g0, 0, none⟩ _).setCell ⟨g0, 1, none⟩ _).setCell ⟨g0, 2, none⟩ _) = W5 at *
    have st := st8
    clear st8
    obtain ⟨k0, f0⟩ := Sg.cells st.out 1 g1 #[.bool false, .slice none 0 0, .slice none 0 0] 28 rfl rfl 0
    obtain ⟨k1, f1⟩ := Sg.cells st.out 1 g1 #[.bool false, .slice none 0 0, .slice none 0 0] 28 rfl rfl 1
    obtain ⟨k2, f2⟩ := Sg.cells st.out 1 g1 #[.bool false, .slice none 0 0, .slice none 0 0] 28 rfl rfl 2
    simp only [List.getElem?_toArray, List.getElem?_cons_zero, List.getElem?_cons_succ] at k0
    simp only [List.getElem?_toArray, List.getElem?_cons_zero, List.getElem?_cons_succ] at k1
    simp only [List.getElem?_toArray, List.getElem?_cons_zero, List.getElem?_cons_succ] at k2
    have st9 := st.out
    have st9 := Sg.put st9 (Firm2.and (Firm2.and (Firm2.and (Firm2.and (Firm2.and Firm2.yes (Firm2.rc _ _ _)) (Firm2.rc _ _ _)) (Firm2.rc _ _ _)) (Firm2.rc _ _ _)) (Firm2.rc _ _ _)) 1 g1 0 _ 28 (.bool s5) rfl rfl rfl
    have st9 := Sg.put st9 (Firm2.and (Firm2.and (Firm2.and (Firm2.and (Firm2.and Firm2.yes (Firm2.rc _ _ _)) (Firm2.rc _ _ _)) (Firm2.rc _ _ _)) (Firm2.rc _ _ _)) (Firm2.rc _ _ _)) 1 g1 1 _ 28 (.slice A5 n5 c5) rfl rfl rfl
    have st9 := Sg.put st9 (Firm2.and (Firm2.and (Firm2.and (Firm2.and (Firm2.and Firm2.yes (Firm2.rc _ _ _)) (Firm2.rc _ _ _)) (Firm2.rc _ _ _)) (Firm2.rc _ _ _)) (Firm2.rc _ _ _)) 1 g1 2 _ 28 (.slice D5 m5 d5) rfl rfl rfl
    have st8 := hide st9
    clear st9
    refine wpAnyH_ready (rs := [15]) (by kernel_rfl) (by simp) ?_
    refine AllReadyH.cons rfl (fun K hK => ?_) ?_
    rotate_left
    · exact AllReadyH.nil
    go_simp
    refine hK.out _ _ st8.out.1 (fun hHeld => ?_)
    clear hK K k0 f0 k1 f1 k2 f2 st
    (try simp only [Act.put, List.setIfInBounds_toArray, List.set_cons_zero, List.set_cons_succ])
    generalize (((W5.setCell ⟨g1, 0, none⟩ _).setCell ⟨g1, 1, none⟩ _).setCell ⟨g1, 2, none⟩ _) = W6 at *
    have st := st8
    clear st8
    refine wpAnyH_done (by kernel_rfl) ?_ _
    clear hHeld
    have s9 := st.out
    have P := hide (And.intro (P.out.1.step s9.1) (And.intro (P.out.2.1.step s9.1) (And.intro (P.out.2.2.step s9.1) (And.intro (show Fx W6 g0 s2 A2 n2 c2 D2 m2 d2 from ⟨(Sg.cells s9 0 g0 _ _ rfl rfl 0).1, (Sg.cells s9 0 g0 _ _ rfl rfl 1).1, (Sg.cells s9 0 g0 _ _ rfl rfl 2).1⟩) (show Fx W6 g1 s5 A5 n5 c5 D5 m5 d5 from ⟨(Sg.cells s9 1 g1 _ _ rfl rfl 0).1, (Sg.cells s9 1 g1 _ _ rfl rfl 1).1, (Sg.cells s9 1 g1 _ _ rfl rfl 2).1⟩)))))
    have R : Hid (Ra W6 (rv sa (.slice Aa na ca) (.slice Da ma da)) ra 1048576 ∧ Ra W6 (rv sb (.slice Ab nb cb) (.slice Db mb db)) rb 1048576 ∧ Ra W6 (rv sc (.slice Ac nc cc) (.slice Dc mc dc)) rc 1048576 ∧ Rc W6 (rv s2 (.slice A2 n2 c2) (.slice D2 m2 d2)) (ra * (rb + rc)) (2 * (2 * 1048576 + 1)) ∧ Rc W6 (rv s5 (.slice A5 n5 c5) (.slice D5 m5 d5)) (ra * (rb + rc)) (2 * (2 * 1048576) + 1)) := hide ⟨R.out.1.step s9.1, R.out.2.1.step s9.1, R.out.2.2.step s9.1, s9.2.2.1.1.1.1.2, by have h := s9.2.2.1.2; rw [hdis.out] at h; exact h⟩
    have B := hide (Below.step B.out B.out.size s9.1)
    clear s9 st
    generalize W6 = w2 at *
    have bx := Below.drew (Below.refl w2.heap.size w2)
    replace P := hide ((And.intro (P.out.1.step bx) (And.intro (P.out.2.1.step bx) (And.intro (P.out.2.2.1.step bx) (And.intro (P.out.2.2.2.1.step bx) (P.out.2.2.2.2.step bx))))))
    replace R := hide ((And.intro (R.out.1.step bx) (And.intro (R.out.2.1.step bx) (And.intro (R.out.2.2.1.step bx) (And.intro (R.out.2.2.2.1.step bx) (R.out.2.2.2.2.step bx))))))
    replace B := hide (Below.step B.out B.out.size bx)
    clear bx
    go_wp2_with fail
    go_region_held3 (fun W => (W.cell? ⟨w.heap.size, 0, none⟩ = some (.bool sa) ∧ W.cell? ⟨w.heap.size, 1, none⟩ = some (.slice Aa na ca) ∧ W.cell? ⟨w.heap.size, 2, none⟩ = some (.slice Da ma da)) ∧ (W.cell? ⟨w.heap.size + 1, 0, none⟩ = some (.bool sb) ∧ W.cell? ⟨w.heap.size + 1, 1, none⟩ = some (.slice Ab nb cb) ∧ W.cell? ⟨w.heap.size + 1, 2, none⟩ = some (.slice Db mb db)) ∧ (W.cell? ⟨w.heap.size + 1 + 1, 0, none⟩ = some (.bool sc) ∧ W.cell? ⟨w.heap.size + 1 + 1, 1, none⟩ = some (.slice Ac nc cc) ∧ W.cell? ⟨w.heap.size + 1 + 1, 2, none⟩ = some (.slice Dc mc dc)) ∧ (W.cell? ⟨g0, 0, none⟩ = some (.bool s2) ∧ W.cell? ⟨g0, 1, none⟩ = some (.slice A2 n2 c2) ∧ W.cell? ⟨g0, 2, none⟩ = some (.slice D2 m2 d2)) ∧ (W.cell? ⟨g1, 0, none⟩ = some (.bool s5) ∧ W.cell? ⟨g1, 1, none⟩ = some (.slice A5 n5 c5) ∧ W.cell? ⟨g1, 2, none⟩ = some (.slice D5 m5 d5)))
      (exact P.out)
      (first
        | (go_at_call 15; refine Calls.mono (rsame_c (r := ra * (rb + rc)) (L := 2 * (2 * 1048576 + 1)) (M := 2 * (2 * 1048576) + 1) ?_ ?_) ?_; (focus ((with_reducible exact R.out.2.2.2.1); done)); (focus ((with_reducible exact R.out.2.2.2.2); done)); rintro e wx ⟨rfl, bx⟩; replace P := hide ((And.intro (P.out.1.step bx) (And.intro (P.out.2.1.step bx) (And.intro (P.out.2.2.1.step bx) (And.intro (P.out.2.2.2.1.step bx) (P.out.2.2.2.2.step bx)))))); replace R := hide ((And.intro (R.out.1.step bx) (And.intro (R.out.2.1.step bx) (And.intro (R.out.2.2.1.step bx) (And.intro (R.out.2.2.2.1.step bx) (R.out.2.2.2.2.step bx)))))); replace B := hide (Below.step B.out B.out.size bx))
        | (go_at_call 41; refine Calls.mono (add_r (r1 := ra) (r2 := rc) (L := 1048576) ?_ ?_ (by omega) (by omega)) ?_; (focus ((with_reducible exact R.out.1); done)); (focus ((with_reducible exact R.out.2.2.1); done)); rintro e wx ⟨vx, rfl, tx, bx⟩; replace P := hide ((And.intro (P.out.1.step bx) (And.intro (P.out.2.1.step bx) (And.intro (P.out.2.2.1.step bx) (And.intro (P.out.2.2.2.1.step bx) (P.out.2.2.2.2.step bx)))))); replace R := hide ((And.intro (R.out.1.step bx) (And.intro (R.out.2.1.step bx) (And.intro (R.out.2.2.1.step bx) (And.intro (R.out.2.2.2.1.step bx) (R.out.2.2.2.2.step bx)))))); replace B := hide (Below.step B.out B.out.size bx))
        | (go_at_call 41; refine Calls.mono (add_r (r1 := rb) (r2 := rc) (L := 1048576) ?_ ?_ (by omega) (by omega)) ?_; (focus ((with_reducible exact R.out.2.1); done)); (focus ((with_reducible exact R.out.2.2.1); done)); rintro e wx ⟨vx, rfl, tx, bx⟩; replace P := hide ((And.intro (P.out.1.step bx) (And.intro (P.out.2.1.step bx) (And.intro (P.out.2.2.1.step bx) (And.intro (P.out.2.2.2.1.step bx) (P.out.2.2.2.2.step bx)))))); replace R := hide ((And.intro (R.out.1.step bx) (And.intro (R.out.2.1.step bx) (And.intro (R.out.2.2.1.step bx) (And.intro (R.out.2.2.2.1.step bx) (R.out.2.2.2.2.step bx)))))); replace B := hide (Below.step B.out B.out.size bx))
        | (go_at_call 41; refine Calls.mono (add_r (r1 := ra) (r2 := rb) (L := 1048576) ?_ ?_ (by omega) (by omega)) ?_; (focus ((with_reducible exact R.out.1); done)); (focus ((with_reducible exact R.out.2.1); done)); rintro e wx ⟨vx, rfl, tx, bx⟩; replace P := hide ((And.intro (P.out.1.step bx) (And.intro (P.out.2.1.step bx) (And.intro (P.out.2.2.1.step bx) (And.intro (P.out.2.2.2.1.step bx) (P.out.2.2.2.2.step bx)))))); replace R := hide ((And.intro (R.out.1.step bx) (And.intro (R.out.2.1.step bx) (And.intro (R.out.2.2.1.step bx) (And.intro (R.out.2.2.2.1.step bx) (R.out.2.2.2.2.step bx)))))); replace B := hide (Below.step B.out B.out.size bx))
        | (go_at_call 42; refine Calls.mono (cmp_r (r1 := ra + rc) (r2 := rb + rc) (L := 2 * 1048576 + 1) ?_ ?_ (by omega) (by omega)) ?_; (focus ((refine Rc.ra ?_; repeat (first | (with_reducible assumption) | (with_reducible refine Rc.step ?_ (by with_reducible assumption)))); done)); (focus ((refine Rc.ra ?_; repeat (first | (with_reducible assumption) | (with_reducible refine Rc.step ?_ (by with_reducible assumption)))); done)); rw [hsum.out]; rintro e wx ⟨rfl, bx⟩; replace P := hide ((And.intro (P.out.1.step bx) (And.intro (P.out.2.1.step bx) (And.intro (P.out.2.2.1.step bx) (And.intro (P.out.2.2.2.1.step bx) (P.out.2.2.2.2.step bx)))))); replace R := hide ((And.intro (R.out.1.step bx) (And.intro (R.out.2.1.step bx) (And.intro (R.out.2.2.1.step bx) (And.intro (R.out.2.2.2.1.step bx) (R.out.2.2.2.2.step bx)))))); replace B := hide (Below.step B.out B.out.size bx))
        | (go_at_call 42; refine Calls.mono (cmp_r (r1 := ra) (r2 := rb) (L := 1048576) ?_ ?_ (by omega) (by omega)) ?_; (focus ((with_reducible exact R.out.1); done)); (focus ((with_reducible exact R.out.2.1); done)); rw [ho1.out]; rintro e wx ⟨rfl, bx⟩; replace P := hide ((And.intro (P.out.1.step bx) (And.intro (P.out.2.1.step bx) (And.intro (P.out.2.2.1.step bx) (And.intro (P.out.2.2.2.1.step bx) (P.out.2.2.2.2.step bx)))))); replace R := hide ((And.intro (R.out.1.step bx) (And.intro (R.out.2.1.step bx) (And.intro (R.out.2.2.1.step bx) (And.intro (R.out.2.2.2.1.step bx) (R.out.2.2.2.2.step bx)))))); replace B := hide (Below.step B.out B.out.size bx))
        | (go_at_call 43; refine Calls.mono (sub_r (r1 := ra + rb) (r2 := rb) (L := 2 * 1048576 + 1) ?_ ?_ (by omega) (by omega)) ?_; (focus ((refine Rc.ra ?_; repeat (first | (with_reducible assumption) | (with_reducible refine Rc.step ?_ (by with_reducible assumption)))); done)); (focus ((refine Ra.more (L := 1048576) ?_ (by omega); with_reducible exact R.out.2.1); done)); rw [hback.out]; rintro e wx ⟨vx, rfl, tx, bx⟩; replace P := hide ((And.intro (P.out.1.step bx) (And.intro (P.out.2.1.step bx) (And.intro (P.out.2.2.1.step bx) (And.intro (P.out.2.2.2.1.step bx) (P.out.2.2.2.2.step bx)))))); replace R := hide ((And.intro (R.out.1.step bx) (And.intro (R.out.2.1.step bx) (And.intro (R.out.2.2.1.step bx) (And.intro (R.out.2.2.2.1.step bx) (R.out.2.2.2.2.step bx)))))); replace B := hide (Below.step B.out B.out.size bx))
        | (go_at_call 44; refine Calls.mono (form_q (r := ra) (L := 1048576) ?_ (by omega) (by omega)) ?_; (focus ((with_reducible exact R.out.1); done)); rintro e wx ⟨vx, rfl, tx, bx⟩; replace P := hide ((And.intro (P.out.1.step bx) (And.intro (P.out.2.1.step bx) (And.intro (P.out.2.2.1.step bx) (And.intro (P.out.2.2.2.1.step bx) (P.out.2.2.2.2.step bx)))))); replace R := hide ((And.intro (R.out.1.step bx) (And.intro (R.out.2.1.step bx) (And.intro (R.out.2.2.1.step bx) (And.intro (R.out.2.2.2.1.step bx) (R.out.2.2.2.2.step bx)))))); replace B := hide (Below.step B.out B.out.size bx))
        | (go_at_call 15; refine Calls.mono (rsame_c (r := ra) (L := 2 * (2 * 1048576 + 1) + 1) (M := 1048576) ?_ ?_) ?_; (focus ((repeat (first | (with_reducible assumption) | (with_reducible refine Rc.step ?_ (by with_reducible assumption)))); done)); (focus ((repeat (first | (with_reducible assumption) | (with_reducible refine Rc.step ?_ (by with_reducible assumption)))); done)); rintro e wx ⟨rfl, bx⟩; replace P := hide ((And.intro (P.out.1.step bx) (And.intro (P.out.2.1.step bx) (And.intro (P.out.2.2.1.step bx) (And.intro (P.out.2.2.2.1.step bx) (P.out.2.2.2.2.step bx)))))); replace R := hide ((And.intro (R.out.1.step bx) (And.intro (R.out.2.1.step bx) (And.intro (R.out.2.2.1.step bx) (And.intro (R.out.2.2.2.1.step bx) (R.out.2.2.2.2.step bx)))))); replace B := hide (Below.step B.out B.out.size bx)))
    all_goals
      have R3 := hide (And.intro R.out.1 (And.intro R.out.2.1 R.out.2.2.1))
      have P3 := hide (And.intro P.out.1 (And.intro P.out.2.1 P.out.2.2.1))
      have B9 := B
      clear P R B
      have R := R3
      have P := P3
      have B := B9
      clear R3 P3 B9
      generalize wx = w3 at *
      obtain ⟨⟨p0, p1, p2⟩, ⟨q0, q1, q2⟩, r0, r1, r2⟩ := P.out
      go_wp2_with fail
      by_cases hb0 : rb = 0
      · refine (div_zero (L := 1048576) R.out.1 R.out.2.1 hb0 (by omega) (by omega)).mono ?_
        rintro e w4 ⟨rfl, bx0⟩
        obtain ⟨x, y⟩ := fbox1 w4 false none 0 0 none 0 0
        have bx := Below.step1 bx0 x
        have SG := hide (sign_r (R.out.2.1.step bx) (by omega))
        rw [hb0, cmpR_same] at SG
        replace P := hide ((And.intro (P.out.1.step bx) (And.intro (P.out.2.1.step bx) (P.out.2.2.step bx))))
        replace B := hide (Below.step B.out B.out.size bx)
        clear p0 p1 p2 q0 q1 q2 r0 r1 r2 bx bx0 x y
        obtain ⟨q0, q1, q2⟩ := P.out.2.1
        go_wp2_with fail
        refine SG.out.mono ?_
        rintro e w5 ⟨rfl, bx⟩
        replace B := hide (Below.step B.out B.out.size bx)
        clear bx SG
        go_wp2_with fail
        go_ret
        exact ⟨rfl, B.out⟩
      · have hqb : Hid (ra / rb * rb = ra) := hide (by grind)
        refine (div_r (L := 1048576) R.out.1 R.out.2.1 hb0 (by omega) (by omega)).mono ?_
        rintro e w4 ⟨v4, rfl, h4, bx0⟩
        obtain ⟨s6, A6, n6, c6, D6, m6, d6, rfl, h4⟩ := h4.parts
        obtain ⟨x, y⟩ := fbox1 w4 s6 A6 n6 c6 D6 m6 d6
        have dr := Below.drew (Below.refl (w4.alloc (rbox s6 (.slice A6 n6 c6) (.slice D6 m6 d6))).heap.size (w4.alloc (rbox s6 (.slice A6 n6 c6) (.slice D6 m6 d6))))
        have bx := Below.step1 (Below.step1 bx0 x) dr
        have P := hide (And.intro (P.out.1.step bx) (And.intro (P.out.2.1.step bx) (And.intro (P.out.2.2.step bx) (y.step dr))))
        have R := hide (And.intro (R.out.1.step bx) (And.intro (R.out.2.1.step bx) (And.intro (R.out.2.2.step bx) ((h4.step x).step dr))))
        have B := hide (Below.step B.out B.out.size bx)
        clear p0 p1 p2 q0 q1 q2 r0 r1 r2 bx bx0 x y dr h4 hb0
        go_wp2_with fail
        generalize (w4.alloc (.cells #[.bool s6, .slice A6 n6 c6, .slice D6 m6 d6] 28)) = w6 at *
        generalize w4.heap.size = g at *
        go_region_held3 (fun W => (W.cell? ⟨w.heap.size, 0, none⟩ = some (.bool sa) ∧ W.cell? ⟨w.heap.size, 1, none⟩ = some (.slice Aa na ca) ∧ W.cell? ⟨w.heap.size, 2, none⟩ = some (.slice Da ma da)) ∧ (W.cell? ⟨w.heap.size + 1, 0, none⟩ = some (.bool sb) ∧ W.cell? ⟨w.heap.size + 1, 1, none⟩ = some (.slice Ab nb cb) ∧ W.cell? ⟨w.heap.size + 1, 2, none⟩ = some (.slice Db mb db)) ∧ (W.cell? ⟨w.heap.size + 1 + 1, 0, none⟩ = some (.bool sc) ∧ W.cell? ⟨w.heap.size + 1 + 1, 1, none⟩ = some (.slice Ac nc cc) ∧ W.cell? ⟨w.heap.size + 1 + 1, 2, none⟩ = some (.slice Dc mc dc)) ∧ (W.cell? ⟨g, 0, none⟩ = some (.bool s6) ∧ W.cell? ⟨g, 1, none⟩ = some (.slice A6 n6 c6) ∧ W.cell? ⟨g, 2, none⟩ = some (.slice D6 m6 d6)))
          (exact P.out)
          (first
            | (go_at_call 40; refine Calls.mono (mul_r (r1 := ra / rb) (r2 := rb) (L := 2 * 1048576) ?_ ?_ (by omega) (by omega)) ?_; (focus ((refine Rc.ra ?_; with_reducible exact R.out.2.2.2); done)); (focus ((refine Ra.more (L := 1048576) ?_ (by omega); with_reducible exact R.out.2.1); done)); rw [hqb.out]; rintro e wx ⟨vx, rfl, tx, bx⟩; replace P := hide ((And.intro (P.out.1.step bx) (And.intro (P.out.2.1.step bx) (And.intro (P.out.2.2.1.step bx) (P.out.2.2.2.step bx))))); replace R := hide ((And.intro (R.out.1.step bx) (And.intro (R.out.2.1.step bx) (And.intro (R.out.2.2.1.step bx) (R.out.2.2.2.step bx))))); replace B := hide (Below.step B.out B.out.size bx))
            | (go_at_call 44; refine Calls.mono (form_q (r := ra) (L := 1048576) ?_ (by omega) (by omega)) ?_; (focus ((with_reducible exact R.out.1); done)); rintro e wx ⟨vx, rfl, tx, bx⟩; replace P := hide ((And.intro (P.out.1.step bx) (And.intro (P.out.2.1.step bx) (And.intro (P.out.2.2.1.step bx) (P.out.2.2.2.step bx))))); replace R := hide ((And.intro (R.out.1.step bx) (And.intro (R.out.2.1.step bx) (And.intro (R.out.2.2.1.step bx) (R.out.2.2.2.step bx))))); replace B := hide (Below.step B.out B.out.size bx))
            | (go_at_call 15; refine Calls.mono (rsame_c (r := ra) (L := 2 * (2 * 1048576)) (M := 1048576) ?_ ?_) ?_; (focus ((repeat (first | (with_reducible assumption) | (with_reducible refine Rc.step ?_ (by with_reducible assumption)))); done)); (focus ((repeat (first | (with_reducible assumption) | (with_reducible refine Rc.step ?_ (by with_reducible assumption)))); done)); rintro e wx ⟨rfl, bx⟩; replace P := hide ((And.intro (P.out.1.step bx) (And.intro (P.out.2.1.step bx) (And.intro (P.out.2.2.1.step bx) (P.out.2.2.2.step bx))))); replace R := hide ((And.intro (R.out.1.step bx) (And.intro (R.out.2.1.step bx) (And.intro (R.out.2.2.1.step bx) (R.out.2.2.2.step bx))))); replace B := hide (Below.step B.out B.out.size bx))
            | (go_at_call 28; refine Calls.mono (floor_r (r := ra) (L := 1048576) ?_ (by omega) (by omega)) ?_; (focus ((with_reducible exact R.out.1); done)); rintro e wx ⟨vx, rfl, zx, bx⟩; replace P := hide ((And.intro (P.out.1.step bx) (And.intro (P.out.2.1.step bx) (And.intro (P.out.2.2.1.step bx) (P.out.2.2.2.step bx))))); replace R := hide ((And.intro (R.out.1.step bx) (And.intro (R.out.2.1.step bx) (And.intro (R.out.2.2.1.step bx) (R.out.2.2.2.step bx))))); replace B := hide (Below.step B.out B.out.size bx))
            | (go_at_call 14; refine Calls.mono (ofint_r (L := 1048576 + 1) (Zi.za zx) (by omega) (by omega)) ?_; rintro e wx ⟨vx, rfl, tx, bx⟩; replace P := hide ((And.intro (P.out.1.step bx) (And.intro (P.out.2.1.step bx) (And.intro (P.out.2.2.1.step bx) (P.out.2.2.2.step bx))))); replace R := hide ((And.intro (R.out.1.step bx) (And.intro (R.out.2.1.step bx) (And.intro (R.out.2.2.1.step bx) (R.out.2.2.2.step bx))))); replace B := hide (Below.step B.out B.out.size bx))
            | (go_at_call 42; refine Calls.mono (cmp_r (r1 := (ra.floor : Rat)) (r2 := ra) (L := 1048576 + 1) ?_ ?_ (by omega) (by omega)) ?_; (focus ((refine Rc.ra ?_; repeat (first | (with_reducible assumption) | (with_reducible refine Rc.step ?_ (by with_reducible assumption)))); done)); (focus ((refine Ra.more (L := 1048576) ?_ (by omega); with_reducible exact R.out.1); done)); rw [ho2.out]; rintro e wx ⟨rfl, bx⟩; replace P := hide ((And.intro (P.out.1.step bx) (And.intro (P.out.2.1.step bx) (And.intro (P.out.2.2.1.step bx) (P.out.2.2.2.step bx))))); replace R := hide ((And.intro (R.out.1.step bx) (And.intro (R.out.2.1.step bx) (And.intro (R.out.2.2.1.step bx) (R.out.2.2.2.step bx))))); replace B := hide (Below.step B.out B.out.size bx))
            | (go_at_call 30; refine Calls.mono (frac_r (r := ra) (L := 1048576) ?_ (by omega) (by omega)) ?_; (focus ((with_reducible exact R.out.1); done)); rintro e wx ⟨vx, rfl, tx, bx⟩; replace P := hide ((And.intro (P.out.1.step bx) (And.intro (P.out.2.1.step bx) (And.intro (P.out.2.2.1.step bx) (P.out.2.2.2.step bx))))); replace R := hide ((And.intro (R.out.1.step bx) (And.intro (R.out.2.1.step bx) (And.intro (R.out.2.2.1.step bx) (R.out.2.2.2.step bx))))); replace B := hide (Below.step B.out B.out.size bx))
            | (go_at_call 38; refine Calls.mono (whole_r _ 1 (by omega) (by omega)) ?_; rintro e wx ⟨vx, rfl, tx, bx⟩; replace tx := (Rc.more tx (show 1 ≤ 1048576 + 1 by omega)); replace P := hide ((And.intro (P.out.1.step bx) (And.intro (P.out.2.1.step bx) (And.intro (P.out.2.2.1.step bx) (P.out.2.2.2.step bx))))); replace R := hide ((And.intro (R.out.1.step bx) (And.intro (R.out.2.1.step bx) (And.intro (R.out.2.2.1.step bx) (R.out.2.2.2.step bx))))); replace B := hide (Below.step B.out B.out.size bx))
            | (go_at_call 42; refine Calls.mono (cmp_r (r1 := ra - (ra.floor : Rat)) (r2 := ((1 : Int) : Rat)) (L := 1048576 + 1) ?_ ?_ (by omega) (by omega)) ?_; (focus ((refine Rc.ra ?_; repeat (first | (with_reducible assumption) | (with_reducible refine Rc.step ?_ (by with_reducible assumption)))); done)); (focus ((refine Rc.ra ?_; repeat (first | (with_reducible assumption) | (with_reducible refine Rc.step ?_ (by with_reducible assumption)))); done)); rw [hfr.out]; rintro e wx ⟨rfl, bx⟩; replace P := hide ((And.intro (P.out.1.step bx) (And.intro (P.out.2.1.step bx) (And.intro (P.out.2.2.1.step bx) (P.out.2.2.2.step bx))))); replace R := hide ((And.intro (R.out.1.step bx) (And.intro (R.out.2.1.step bx) (And.intro (R.out.2.2.1.step bx) (R.out.2.2.2.step bx))))); replace B := hide (Below.step B.out B.out.size bx)))
        all_goals
          go_wp2_with fail
          go_ret
          exact ⟨rfl, B.out⟩
  refine wpAnyH_with 3 #[true, true, true, true, true, true, true, true, true, true, true, true, true, false, false, false] (fun a W => ∃ (s1 : Bool) (A1 : Option Addr) (n1 c1 : Nat) (D1 : Option Addr) (m1 d1 : Nat) (s2 : Bool) (A2 : Option Addr) (n2 c2 : Nat) (D2 : Option Addr) (m2 d2 : Nat) (s3 : Bool) (A3 : Option Addr) (n3 c3 : Nat) (D3 : Option Addr) (m3 d3 : Nat) (s4 : Bool) (A4 : Option Addr) (n4 c4 : Nat) (D4 : Option Addr) (m4 d4 : Nat) (s5 : Bool) (A5 : Option Addr) (n5 c5 : Nat) (D5 : Option Addr) (m5 d5 : Nat) (g0 : Nat), a = ⟨#[rv sa (.slice Aa na ca) (.slice Da ma da), rv sb (.slice Ab nb cb) (.slice Db mb db), rv sc (.slice Ac nc cc) (.slice Dc mc dc), .pointer (some ⟨w.heap.size, 0, none⟩), .pointer (some ⟨w.heap.size + 1, 0, none⟩), .pointer (some ⟨w.heap.size + 1 + 1, 0, none⟩), .bool false, .pointer (some ⟨g0, 0, none⟩), undef, undef, undef, .bool true, .bool false, rv sa (.slice Aa na ca) (.slice Da ma da), rv sb (.slice Ab nb cb) (.slice Db mb db), rv sc (.slice Ac nc cc) (.slice Dc mc dc), rv s1 (.slice A1 n1 c1) (.slice D1 m1 d1), rv s2 (.slice A2 n2 c2) (.slice D2 m2 d2), rv sa (.slice Aa na ca) (.slice Da ma da), rv sb (.slice Ab nb cb) (.slice Db mb db), rv s3 (.slice A3 n3 c3) (.slice D3 m3 d3), rv sa (.slice Aa na ca) (.slice Da ma da), rv sc (.slice Ac nc cc) (.slice Dc mc dc), rv s4 (.slice A4 n4 c4) (.slice D4 m4 d4), rv s5 (.slice A5 n5 c5) (.slice D5 m5 d5), undef, undef, undef, undef, undef, undef, undef, undef, undef, undef, undef, undef, undef, undef, undef, undef, undef, undef, undef, undef, undef, undef, undef, undef, undef, undef, undef, undef, undef, undef, undef, undef, undef, undef, undef, undef, undef, undef, undef, undef, undef, undef, undef, undef, undef, undef, undef, undef, undef, undef, undef, undef, undef, undef, undef, undef, undef, undef, undef, undef, undef, undef, undef, undef], []⟩ ∧ Sg w1.drew.heap.size w1.drew W [rblk, rblk] [some g0, none] (fun W => (((((True ∧ Rc W (rv s1 (.slice A1 n1 c1) (.slice D1 m1 d1)) (rb + rc) (2 * 1048576 + 1)) ∧ Rc W (rv s2 (.slice A2 n2 c2) (.slice D2 m2 d2)) (ra * (rb + rc)) (2 * (2 * 1048576 + 1))) ∧ Rc W (rv s3 (.slice A3 n3 c3) (.slice D3 m3 d3)) (ra * rb) (2 * 1048576)) ∧ Rc W (rv s4 (.slice A4 n4 c4) (.slice D4 m4 d4)) (ra * rc) (2 * 1048576)) ∧ Rc W (rv s5 (.slice A5 n5 c5) (.slice D5 m5 d5)) (ra * rb + ra * rc) (2 * (2 * 1048576) + 1)))) ?_ (fun Hs510 => ?_)
  · rintro a W ⟨s1, A1, n1, c1, D1, m1, d1, s2, A2, n2, c2, D2, m2, d2, s3, A3, n3, c3, D3, m3, d3, s4, A4, n4, c4, D4, m4, d4, s5, A5, n5, c5, D5, m5, d5, g0, rfl, st0⟩
    have hHeld := st0.1
    have st := hide st0
    clear st0
    refine wpAnyH_ready (rs := [13]) (by kernel_rfl) (by simp) ?_
    refine AllReadyH.cons rfl (fun K hK => ?_) ?_
    · go_simp
      have st2 := Sg.make st.out (Firm2.and (Firm2.and (Firm2.and (Firm2.and (Firm2.and Firm2.yes (Firm2.rc _ _ _)) (Firm2.rc _ _ _)) (Firm2.rc _ _ _)) (Firm2.rc _ _ _)) (Firm2.rc _ _ _)) 1 _ rfl (by simp)
      refine hK.out _ _ st2.1 (fun hHeld => ?_)
      (try simp only [Act.put, List.setIfInBounds_toArray, List.set_cons_zero, List.set_cons_succ])
      exact Hs511.out _ _ ⟨s1, A1, n1, c1, D1, m1, d1, s2, A2, n2, c2, D2, m2, d2, s3, A3, n3, c3, D3, m3, d3, s4, A4, n4, c4, D4, m4, d4, s5, A5, n5, c5, D5, m5, d5, g0, W.heap.size, rfl, st2⟩
    exact AllReadyH.nil
  refine wpAnyH_with 3 #[true, true, true, true, true, true, true, true, true, true, true, true, false, true, false, false] (fun a W => ∃ (s1 : Bool) (A1 : Option Addr) (n1 c1 : Nat) (D1 : Option Addr) (m1 d1 : Nat) (s2 : Bool) (A2 : Option Addr) (n2 c2 : Nat) (D2 : Option Addr) (m2 d2 : Nat) (s3 : Bool) (A3 : Option Addr) (n3 c3 : Nat) (D3 : Option Addr) (m3 d3 : Nat) (s4 : Bool) (A4 : Option Addr) (n4 c4 : Nat) (D4 : Option Addr) (m4 d4 : Nat) (s5 : Bool) (A5 : Option Addr) (n5 c5 : Nat) (D5 : Option Addr) (m5 d5 : Nat) (g1 : Nat), a = ⟨#[rv sa (.slice Aa na ca) (.slice Da ma da), rv sb (.slice Ab nb cb) (.slice Db mb db), rv sc (.slice Ac nc cc) (.slice Dc mc dc), .pointer (some ⟨w.heap.size, 0, none⟩), .pointer (some ⟨w.heap.size + 1, 0, none⟩), .pointer (some ⟨w.heap.size + 1 + 1, 0, none⟩), .bool false, undef, .pointer (some ⟨g1, 0, none⟩), undef, undef, .bool true, .bool false, rv sa (.slice Aa na ca) (.slice Da ma da), rv sb (.slice Ab nb cb) (.slice Db mb db), rv sc (.slice Ac nc cc) (.slice Dc mc dc), rv s1 (.slice A1 n1 c1) (.slice D1 m1 d1), rv s2 (.slice A2 n2 c2) (.slice D2 m2 d2), rv sa (.slice Aa na ca) (.slice Da ma da), rv sb (.slice Ab nb cb) (.slice Db mb db), rv s3 (.slice A3 n3 c3) (.slice D3 m3 d3), rv sa (.slice Aa na ca) (.slice Da ma da), rv sc (.slice Ac nc cc) (.slice Dc mc dc), rv s4 (.slice A4 n4 c4) (.slice D4 m4 d4), rv s5 (.slice A5 n5 c5) (.slice D5 m5 d5), undef, undef, undef, undef, undef, undef, undef, undef, undef, undef, undef, undef, undef, undef, undef, undef, undef, undef, undef, undef, undef, undef, undef, undef, undef, undef, undef, undef, undef, undef, undef, undef, undef, undef, undef, undef, undef, undef, undef, undef, undef, undef, undef, undef, undef, undef, undef, undef, undef, undef, undef, undef, undef, undef, undef, undef, undef, undef, undef, undef, undef, undef, undef, undef], []⟩ ∧ Sg w1.drew.heap.size w1.drew W [rblk, rblk] [none, some g1] (fun W => (((((True ∧ Rc W (rv s1 (.slice A1 n1 c1) (.slice D1 m1 d1)) (rb + rc) (2 * 1048576 + 1)) ∧ Rc W (rv s2 (.slice A2 n2 c2) (.slice D2 m2 d2)) (ra * (rb + rc)) (2 * (2 * 1048576 + 1))) ∧ Rc W (rv s3 (.slice A3 n3 c3) (.slice D3 m3 d3)) (ra * rb) (2 * 1048576)) ∧ Rc W (rv s4 (.slice A4 n4 c4) (.slice D4 m4 d4)) (ra * rc) (2 * 1048576)) ∧ Rc W (rv s5 (.slice A5 n5 c5) (.slice D5 m5 d5)) (ra * rb + ra * rc) (2 * (2 * 1048576) + 1)))) ?_ (fun Hs501 => ?_)
  · rintro a W ⟨s1, A1, n1, c1, D1, m1, d1, s2, A2, n2, c2, D2, m2, d2, s3, A3, n3, c3, D3, m3, d3, s4, A4, n4, c4, D4, m4, d4, s5, A5, n5, c5, D5, m5, d5, g1, rfl, st0⟩
    have hHeld := st0.1
    have st := hide st0
    clear st0
    refine wpAnyH_ready (rs := [12]) (by kernel_rfl) (by simp) ?_
    refine AllReadyH.cons rfl (fun K hK => ?_) ?_
    · go_simp
      have st2 := Sg.make st.out (Firm2.and (Firm2.and (Firm2.and (Firm2.and (Firm2.and Firm2.yes (Firm2.rc _ _ _)) (Firm2.rc _ _ _)) (Firm2.rc _ _ _)) (Firm2.rc _ _ _)) (Firm2.rc _ _ _)) 0 _ rfl (by simp)
      refine hK.out _ _ st2.1 (fun hHeld => ?_)
      (try simp only [Act.put, List.setIfInBounds_toArray, List.set_cons_zero, List.set_cons_succ])
      exact Hs511.out _ _ ⟨s1, A1, n1, c1, D1, m1, d1, s2, A2, n2, c2, D2, m2, d2, s3, A3, n3, c3, D3, m3, d3, s4, A4, n4, c4, D4, m4, d4, s5, A5, n5, c5, D5, m5, d5, W.heap.size, g1, rfl, st2⟩
    exact AllReadyH.nil
  refine wpAnyH_with 4 #[true, true, true, true, true, true, true, true, true, true, true, true, false, false, false, false] (fun a W => ∃ (s1 : Bool) (A1 : Option Addr) (n1 c1 : Nat) (D1 : Option Addr) (m1 d1 : Nat) (s2 : Bool) (A2 : Option Addr) (n2 c2 : Nat) (D2 : Option Addr) (m2 d2 : Nat) (s3 : Bool) (A3 : Option Addr) (n3 c3 : Nat) (D3 : Option Addr) (m3 d3 : Nat) (s4 : Bool) (A4 : Option Addr) (n4 c4 : Nat) (D4 : Option Addr) (m4 d4 : Nat) (s5 : Bool) (A5 : Option Addr) (n5 c5 : Nat) (D5 : Option Addr) (m5 d5 : Nat), a = ⟨#[rv sa (.slice Aa na ca) (.slice Da ma da), rv sb (.slice Ab nb cb) (.slice Db mb db), rv sc (.slice Ac nc cc) (.slice Dc mc dc), .pointer (some ⟨w.heap.size, 0, none⟩), .pointer (some ⟨w.heap.size + 1, 0, none⟩), .pointer (some ⟨w.heap.size + 1 + 1, 0, none⟩), .bool false, undef, undef, undef, undef, .bool true, .bool false, rv sa (.slice Aa na ca) (.slice Da ma da), rv sb (.slice Ab nb cb) (.slice Db mb db), rv sc (.slice Ac nc cc) (.slice Dc mc dc), rv s1 (.slice A1 n1 c1) (.slice D1 m1 d1), rv s2 (.slice A2 n2 c2) (.slice D2 m2 d2), rv sa (.slice Aa na ca) (.slice Da ma da), rv sb (.slice Ab nb cb) (.slice Db mb db), rv s3 (.slice A3 n3 c3) (.slice D3 m3 d3), rv sa (.slice Aa na ca) (.slice Da ma da), rv sc (.slice Ac nc cc) (.slice Dc mc dc), rv s4 (.slice A4 n4 c4) (.slice D4 m4 d4), rv s5 (.slice A5 n5 c5) (.slice D5 m5 d5), undef, undef, undef, undef, undef, undef, undef, undef, undef, undef, undef, undef, undef, undef, undef, undef, undef, undef, undef, undef, undef, undef, undef, undef, undef, undef, undef, undef, undef, undef, undef, undef, undef, undef, undef, undef, undef, undef, undef, undef, undef, undef, undef, undef, undef, undef, undef, undef, undef, undef, undef, undef, undef, undef, undef, undef, undef, undef, undef, undef, undef, undef, undef, undef], []⟩ ∧ Sg w1.drew.heap.size w1.drew W [rblk, rblk] [none, none] (fun W => (((((True ∧ Rc W (rv s1 (.slice A1 n1 c1) (.slice D1 m1 d1)) (rb + rc) (2 * 1048576 + 1)) ∧ Rc W (rv s2 (.slice A2 n2 c2) (.slice D2 m2 d2)) (ra * (rb + rc)) (2 * (2 * 1048576 + 1))) ∧ Rc W (rv s3 (.slice A3 n3 c3) (.slice D3 m3 d3)) (ra * rb) (2 * 1048576)) ∧ Rc W (rv s4 (.slice A4 n4 c4) (.slice D4 m4 d4)) (ra * rc) (2 * 1048576)) ∧ Rc W (rv s5 (.slice A5 n5 c5) (.slice D5 m5 d5)) (ra * rb + ra * rc) (2 * (2 * 1048576) + 1)))) ?_ (fun Hs500 => ?_)
  · rintro a W ⟨s1, A1, n1, c1, D1, m1, d1, s2, A2, n2, c2, D2, m2, d2, s3, A3, n3, c3, D3, m3, d3, s4, A4, n4, c4, D4, m4, d4, s5, A5, n5, c5, D5, m5, d5, rfl, st0⟩
    have hHeld := st0.1
    have st := hide st0
    clear st0
    refine wpAnyH_ready (rs := [12, 13]) (by kernel_rfl) (by simp) ?_
    refine AllReadyH.cons rfl (fun K hK => ?_) ?_
    · go_simp
      have st2 := Sg.make st.out (Firm2.and (Firm2.and (Firm2.and (Firm2.and (Firm2.and Firm2.yes (Firm2.rc _ _ _)) (Firm2.rc _ _ _)) (Firm2.rc _ _ _)) (Firm2.rc _ _ _)) (Firm2.rc _ _ _)) 0 _ rfl (by simp)
      refine hK.out _ _ st2.1 (fun hHeld => ?_)
      (try simp only [Act.put, List.setIfInBounds_toArray, List.set_cons_zero, List.set_cons_succ])
      exact Hs510.out _ _ ⟨s1, A1, n1, c1, D1, m1, d1, s2, A2, n2, c2, D2, m2, d2, s3, A3, n3, c3, D3, m3, d3, s4, A4, n4, c4, D4, m4, d4, s5, A5, n5, c5, D5, m5, d5, W.heap.size, rfl, st2⟩
    refine AllReadyH.cons rfl (fun K hK => ?_) ?_
    · go_simp
      have st2 := Sg.make st.out (Firm2.and (Firm2.and (Firm2.and (Firm2.and (Firm2.and Firm2.yes (Firm2.rc _ _ _)) (Firm2.rc _ _ _)) (Firm2.rc _ _ _)) (Firm2.rc _ _ _)) (Firm2.rc _ _ _)) 1 _ rfl (by simp)
      refine hK.out _ _ st2.1 (fun hHeld => ?_)
      (try simp only [Act.put, List.setIfInBounds_toArray, List.set_cons_zero, List.set_cons_succ])
      exact Hs501.out _ _ ⟨s1, A1, n1, c1, D1, m1, d1, s2, A2, n2, c2, D2, m2, d2, s3, A3, n3, c3, D3, m3, d3, s4, A4, n4, c4, D4, m4, d4, s5, A5, n5, c5, D5, m5, d5, W.heap.size, rfl, st2⟩
    exact AllReadyH.nil
  refine wpAnyH_with 3 #[true, true, true, true, true, true, true, true, true, true, true, false, true, true, false, false] (fun a W => ∃ (s1 : Bool) (A1 : Option Addr) (n1 c1 : Nat) (D1 : Option Addr) (m1 d1 : Nat) (s2 : Bool) (A2 : Option Addr) (n2 c2 : Nat) (D2 : Option Addr) (m2 d2 : Nat) (s3 : Bool) (A3 : Option Addr) (n3 c3 : Nat) (D3 : Option Addr) (m3 d3 : Nat) (s4 : Bool) (A4 : Option Addr) (n4 c4 : Nat) (D4 : Option Addr) (m4 d4 : Nat) (g0 : Nat) (g1 : Nat), a = ⟨#[rv sa (.slice Aa na ca) (.slice Da ma da), rv sb (.slice Ab nb cb) (.slice Db mb db), rv sc (.slice Ac nc cc) (.slice Dc mc dc), .pointer (some ⟨w.heap.size, 0, none⟩), .pointer (some ⟨w.heap.size + 1, 0, none⟩), .pointer (some ⟨w.heap.size + 1 + 1, 0, none⟩), .bool false, .pointer (some ⟨g0, 0, none⟩), .pointer (some ⟨g1, 0, none⟩), undef, undef, .bool true, .bool false, rv sa (.slice Aa na ca) (.slice Da ma da), rv sb (.slice Ab nb cb) (.slice Db mb db), rv sc (.slice Ac nc cc) (.slice Dc mc dc), rv s1 (.slice A1 n1 c1) (.slice D1 m1 d1), rv s2 (.slice A2 n2 c2) (.slice D2 m2 d2), rv sa (.slice Aa na ca) (.slice Da ma da), rv sb (.slice Ab nb cb) (.slice Db mb db), rv s3 (.slice A3 n3 c3) (.slice D3 m3 d3), rv sa (.slice Aa na ca) (.slice Da ma da), rv sc (.slice Ac nc cc) (.slice Dc mc dc), rv s4 (.slice A4 n4 c4) (.slice D4 m4 d4), undef, undef, undef, undef, undef, undef, undef, undef, undef, undef, undef, undef, undef, undef, undef, undef, undef, undef, undef, undef, undef, undef, undef, undef, undef, undef, undef, undef, undef, undef, undef, undef, undef, undef, undef, undef, undef, undef, undef, undef, undef, undef, undef, undef, undef, undef, undef, undef, undef, undef, undef, undef, undef, undef, undef, undef, undef, undef, undef, undef, undef, undef, undef, undef, undef], []⟩ ∧ Sg w1.drew.heap.size w1.drew W [rblk, rblk] [some g0, some g1] (fun W => ((((True ∧ Rc W (rv s1 (.slice A1 n1 c1) (.slice D1 m1 d1)) (rb + rc) (2 * 1048576 + 1)) ∧ Rc W (rv s2 (.slice A2 n2 c2) (.slice D2 m2 d2)) (ra * (rb + rc)) (2 * (2 * 1048576 + 1))) ∧ Rc W (rv s3 (.slice A3 n3 c3) (.slice D3 m3 d3)) (ra * rb) (2 * 1048576)) ∧ Rc W (rv s4 (.slice A4 n4 c4) (.slice D4 m4 d4)) (ra * rc) (2 * 1048576)))) ?_ (fun Hs411 => ?_)
  · rintro a W ⟨s1, A1, n1, c1, D1, m1, d1, s2, A2, n2, c2, D2, m2, d2, s3, A3, n3, c3, D3, m3, d3, s4, A4, n4, c4, D4, m4, d4, g0, g1, rfl, st0⟩
    have hHeld := st0.1
    have st := hide st0
    clear st0
    refine wpAnyH_ready (rs := [11]) (by kernel_rfl) (by simp) ?_
    refine AllReadyH.cons rfl (fun K hK => ?_) ?_
    · go_simp
      go_at_call 41
      refine Calls.mono (add_r (L := 2 * 1048576) (Rc.ra st.out.2.2.1.1.2) (Rc.ra st.out.2.2.1.2) (by omega) (by omega)) ?_
      rintro e wx ⟨v9, rfl, hq, bx⟩
      obtain ⟨s5, A5, n5, c5, D5, m5, d5, rfl, tx⟩ := hq.parts
      clear hq
      try dsimp only
      have st2 := Sg.call (G := fun W => Rc W (rv s5 (.slice A5 n5 c5) (.slice D5 m5 d5)) (ra * rb + ra * rc) (2 * (2 * 1048576) + 1)) st.out bx (Firm2.and (Firm2.and (Firm2.and (Firm2.and Firm2.yes (Firm2.rc _ _ _)) (Firm2.rc _ _ _)) (Firm2.rc _ _ _)) (Firm2.rc _ _ _)) tx
      have hSt := hide st2
      refine hK.out _ _ st2.1 (fun hHeld => ?_)
      clear hK K st2
      (try simp only [Act.put, List.setIfInBounds_toArray, List.set_cons_zero, List.set_cons_succ])
      exact Hs511.out _ _ ⟨s1, A1, n1, c1, D1, m1, d1, s2, A2, n2, c2, D2, m2, d2, s3, A3, n3, c3, D3, m3, d3, s4, A4, n4, c4, D4, m4, d4, s5, A5, n5, c5, D5, m5, d5, g0, g1, rfl, hSt.out⟩
    exact AllReadyH.nil
  refine wpAnyH_with 4 #[true, true, true, true, true, true, true, true, true, true, true, false, true, false, false, false] (fun a W => ∃ (s1 : Bool) (A1 : Option Addr) (n1 c1 : Nat) (D1 : Option Addr) (m1 d1 : Nat) (s2 : Bool) (A2 : Option Addr) (n2 c2 : Nat) (D2 : Option Addr) (m2 d2 : Nat) (s3 : Bool) (A3 : Option Addr) (n3 c3 : Nat) (D3 : Option Addr) (m3 d3 : Nat) (s4 : Bool) (A4 : Option Addr) (n4 c4 : Nat) (D4 : Option Addr) (m4 d4 : Nat) (g0 : Nat), a = ⟨#[rv sa (.slice Aa na ca) (.slice Da ma da), rv sb (.slice Ab nb cb) (.slice Db mb db), rv sc (.slice Ac nc cc) (.slice Dc mc dc), .pointer (some ⟨w.heap.size, 0, none⟩), .pointer (some ⟨w.heap.size + 1, 0, none⟩), .pointer (some ⟨w.heap.size + 1 + 1, 0, none⟩), .bool false, .pointer (some ⟨g0, 0, none⟩), undef, undef, undef, .bool true, .bool false, rv sa (.slice Aa na ca) (.slice Da ma da), rv sb (.slice Ab nb cb) (.slice Db mb db), rv sc (.slice Ac nc cc) (.slice Dc mc dc), rv s1 (.slice A1 n1 c1) (.slice D1 m1 d1), rv s2 (.slice A2 n2 c2) (.slice D2 m2 d2), rv sa (.slice Aa na ca) (.slice Da ma da), rv sb (.slice Ab nb cb) (.slice Db mb db), rv s3 (.slice A3 n3 c3) (.slice D3 m3 d3), rv sa (.slice Aa na ca) (.slice Da ma da), rv sc (.slice Ac nc cc) (.slice Dc mc dc), rv s4 (.slice A4 n4 c4) (.slice D4 m4 d4), undef, undef, undef, undef, undef, undef, undef, undef, undef, undef, undef, undef, undef, undef, undef, undef, undef, undef, undef, undef, undef, undef, undef, undef, undef, undef, undef, undef, undef, undef, undef, undef, undef, undef, undef, undef, undef, undef, undef, undef, undef, undef, undef, undef, undef, undef, undef, undef, undef, undef, undef, undef, undef, undef, undef, undef, undef, undef, undef, undef, undef, undef, undef, undef, undef], []⟩ ∧ Sg w1.drew.heap.size w1.drew W [rblk, rblk] [some g0, none] (fun W => ((((True ∧ Rc W (rv s1 (.slice A1 n1 c1) (.slice D1 m1 d1)) (rb + rc) (2 * 1048576 + 1)) ∧ Rc W (rv s2 (.slice A2 n2 c2) (.slice D2 m2 d2)) (ra * (rb + rc)) (2 * (2 * 1048576 + 1))) ∧ Rc W (rv s3 (.slice A3 n3 c3) (.slice D3 m3 d3)) (ra * rb) (2 * 1048576)) ∧ Rc W (rv s4 (.slice A4 n4 c4) (.slice D4 m4 d4)) (ra * rc) (2 * 1048576)))) ?_ (fun Hs410 => ?_)
  · rintro a W ⟨s1, A1, n1, c1, D1, m1, d1, s2, A2, n2, c2, D2, m2, d2, s3, A3, n3, c3, D3, m3, d3, s4, A4, n4, c4, D4, m4, d4, g0, rfl, st0⟩
    have hHeld := st0.1
    have st := hide st0
    clear st0
    refine wpAnyH_ready (rs := [11, 13]) (by kernel_rfl) (by simp) ?_
    refine AllReadyH.cons rfl (fun K hK => ?_) ?_
    · go_simp
      go_at_call 41
      refine Calls.mono (add_r (L := 2 * 1048576) (Rc.ra st.out.2.2.1.1.2) (Rc.ra st.out.2.2.1.2) (by omega) (by omega)) ?_
      rintro e wx ⟨v9, rfl, hq, bx⟩
      obtain ⟨s5, A5, n5, c5, D5, m5, d5, rfl, tx⟩ := hq.parts
      clear hq
      try dsimp only
      have st2 := Sg.call (G := fun W => Rc W (rv s5 (.slice A5 n5 c5) (.slice D5 m5 d5)) (ra * rb + ra * rc) (2 * (2 * 1048576) + 1)) st.out bx (Firm2.and (Firm2.and (Firm2.and (Firm2.and Firm2.yes (Firm2.rc _ _ _)) (Firm2.rc _ _ _)) (Firm2.rc _ _ _)) (Firm2.rc _ _ _)) tx
      have hSt := hide st2
      refine hK.out _ _ st2.1 (fun hHeld => ?_)
      clear hK K st2
      (try simp only [Act.put, List.setIfInBounds_toArray, List.set_cons_zero, List.set_cons_succ])
      exact Hs510.out _ _ ⟨s1, A1, n1, c1, D1, m1, d1, s2, A2, n2, c2, D2, m2, d2, s3, A3, n3, c3, D3, m3, d3, s4, A4, n4, c4, D4, m4, d4, s5, A5, n5, c5, D5, m5, d5, g0, rfl, hSt.out⟩
    refine AllReadyH.cons rfl (fun K hK => ?_) ?_
    · go_simp
      have st2 := Sg.make st.out (Firm2.and (Firm2.and (Firm2.and (Firm2.and Firm2.yes (Firm2.rc _ _ _)) (Firm2.rc _ _ _)) (Firm2.rc _ _ _)) (Firm2.rc _ _ _)) 1 _ rfl (by simp)
      refine hK.out _ _ st2.1 (fun hHeld => ?_)
      (try simp only [Act.put, List.setIfInBounds_toArray, List.set_cons_zero, List.set_cons_succ])
      exact Hs411.out _ _ ⟨s1, A1, n1, c1, D1, m1, d1, s2, A2, n2, c2, D2, m2, d2, s3, A3, n3, c3, D3, m3, d3, s4, A4, n4, c4, D4, m4, d4, g0, W.heap.size, rfl, st2⟩
    exact AllReadyH.nil
  refine wpAnyH_with 4 #[true, true, true, true, true, true, true, true, true, true, true, false, false, true, false, false] (fun a W => ∃ (s1 : Bool) (A1 : Option Addr) (n1 c1 : Nat) (D1 : Option Addr) (m1 d1 : Nat) (s2 : Bool) (A2 : Option Addr) (n2 c2 : Nat) (D2 : Option Addr) (m2 d2 : Nat) (s3 : Bool) (A3 : Option Addr) (n3 c3 : Nat) (D3 : Option Addr) (m3 d3 : Nat) (s4 : Bool) (A4 : Option Addr) (n4 c4 : Nat) (D4 : Option Addr) (m4 d4 : Nat) (g1 : Nat), a = ⟨#[rv sa (.slice Aa na ca) (.slice Da ma da), rv sb (.slice Ab nb cb) (.slice Db mb db), rv sc (.slice Ac nc cc) (.slice Dc mc dc), .pointer (some ⟨w.heap.size, 0, none⟩), .pointer (some ⟨w.heap.size + 1, 0, none⟩), .pointer (some ⟨w.heap.size + 1 + 1, 0, none⟩), .bool false, undef, .pointer (some ⟨g1, 0, none⟩), undef, undef, .bool true, .bool false, rv sa (.slice Aa na ca) (.slice Da ma da), rv sb (.slice Ab nb cb) (.slice Db mb db), rv sc (.slice Ac nc cc) (.slice Dc mc dc), rv s1 (.slice A1 n1 c1) (.slice D1 m1 d1), rv s2 (.slice A2 n2 c2) (.slice D2 m2 d2), rv sa (.slice Aa na ca) (.slice Da ma da), rv sb (.slice Ab nb cb) (.slice Db mb db), rv s3 (.slice A3 n3 c3) (.slice D3 m3 d3), rv sa (.slice Aa na ca) (.slice Da ma da), rv sc (.slice Ac nc cc) (.slice Dc mc dc), rv s4 (.slice A4 n4 c4) (.slice D4 m4 d4), undef, undef, undef, undef, undef, undef, undef, undef, undef, undef, undef, undef, undef, undef, undef, undef, undef, undef, undef, undef, undef, undef, undef, undef, undef, undef, undef, undef, undef, undef, undef, undef, undef, undef, undef, undef, undef, undef, undef, undef, undef, undef, undef, undef, undef, undef, undef, undef, undef, undef, undef, undef, undef, undef, undef, undef, undef, undef, undef, undef, undef, undef, undef, undef, undef], []⟩ ∧ Sg w1.drew.heap.size w1.drew W [rblk, rblk] [none, some g1] (fun W => ((((True ∧ Rc W (rv s1 (.slice A1 n1 c1) (.slice D1 m1 d1)) (rb + rc) (2 * 1048576 + 1)) ∧ Rc W (rv s2 (.slice A2 n2 c2) (.slice D2 m2 d2)) (ra * (rb + rc)) (2 * (2 * 1048576 + 1))) ∧ Rc W (rv s3 (.slice A3 n3 c3) (.slice D3 m3 d3)) (ra * rb) (2 * 1048576)) ∧ Rc W (rv s4 (.slice A4 n4 c4) (.slice D4 m4 d4)) (ra * rc) (2 * 1048576)))) ?_ (fun Hs401 => ?_)
  · rintro a W ⟨s1, A1, n1, c1, D1, m1, d1, s2, A2, n2, c2, D2, m2, d2, s3, A3, n3, c3, D3, m3, d3, s4, A4, n4, c4, D4, m4, d4, g1, rfl, st0⟩
    have hHeld := st0.1
    have st := hide st0
    clear st0
    refine wpAnyH_ready (rs := [11, 12]) (by kernel_rfl) (by simp) ?_
    refine AllReadyH.cons rfl (fun K hK => ?_) ?_
    · go_simp
      go_at_call 41
      refine Calls.mono (add_r (L := 2 * 1048576) (Rc.ra st.out.2.2.1.1.2) (Rc.ra st.out.2.2.1.2) (by omega) (by omega)) ?_
      rintro e wx ⟨v9, rfl, hq, bx⟩
      obtain ⟨s5, A5, n5, c5, D5, m5, d5, rfl, tx⟩ := hq.parts
      clear hq
      try dsimp only
      have st2 := Sg.call (G := fun W => Rc W (rv s5 (.slice A5 n5 c5) (.slice D5 m5 d5)) (ra * rb + ra * rc) (2 * (2 * 1048576) + 1)) st.out bx (Firm2.and (Firm2.and (Firm2.and (Firm2.and Firm2.yes (Firm2.rc _ _ _)) (Firm2.rc _ _ _)) (Firm2.rc _ _ _)) (Firm2.rc _ _ _)) tx
      have hSt := hide st2
      refine hK.out _ _ st2.1 (fun hHeld => ?_)
      clear hK K st2
      (try simp only [Act.put, List.setIfInBounds_toArray, List.set_cons_zero, List.set_cons_succ])
      exact Hs501.out _ _ ⟨s1, A1, n1, c1, D1, m1, d1, s2, A2, n2, c2, D2, m2, d2, s3, A3, n3, c3, D3, m3, d3, s4, A4, n4, c4, D4, m4, d4, s5, A5, n5, c5, D5, m5, d5, g1, rfl, hSt.out⟩
    refine AllReadyH.cons rfl (fun K hK => ?_) ?_
    · go_simp
      have st2 := Sg.make st.out (Firm2.and (Firm2.and (Firm2.and (Firm2.and Firm2.yes (Firm2.rc _ _ _)) (Firm2.rc _ _ _)) (Firm2.rc _ _ _)) (Firm2.rc _ _ _)) 0 _ rfl (by simp)
      refine hK.out _ _ st2.1 (fun hHeld => ?_)
      (try simp only [Act.put, List.setIfInBounds_toArray, List.set_cons_zero, List.set_cons_succ])
      exact Hs411.out _ _ ⟨s1, A1, n1, c1, D1, m1, d1, s2, A2, n2, c2, D2, m2, d2, s3, A3, n3, c3, D3, m3, d3, s4, A4, n4, c4, D4, m4, d4, W.heap.size, g1, rfl, st2⟩
    exact AllReadyH.nil
  refine wpAnyH_with 5 #[true, true, true, true, true, true, true, true, true, true, true, false, false, false, false, false] (fun a W => ∃ (s1 : Bool) (A1 : Option Addr) (n1 c1 : Nat) (D1 : Option Addr) (m1 d1 : Nat) (s2 : Bool) (A2 : Option Addr) (n2 c2 : Nat) (D2 : Option Addr) (m2 d2 : Nat) (s3 : Bool) (A3 : Option Addr) (n3 c3 : Nat) (D3 : Option Addr) (m3 d3 : Nat) (s4 : Bool) (A4 : Option Addr) (n4 c4 : Nat) (D4 : Option Addr) (m4 d4 : Nat), a = ⟨#[rv sa (.slice Aa na ca) (.slice Da ma da), rv sb (.slice Ab nb cb) (.slice Db mb db), rv sc (.slice Ac nc cc) (.slice Dc mc dc), .pointer (some ⟨w.heap.size, 0, none⟩), .pointer (some ⟨w.heap.size + 1, 0, none⟩), .pointer (some ⟨w.heap.size + 1 + 1, 0, none⟩), .bool false, undef, undef, undef, undef, .bool true, .bool false, rv sa (.slice Aa na ca) (.slice Da ma da), rv sb (.slice Ab nb cb) (.slice Db mb db), rv sc (.slice Ac nc cc) (.slice Dc mc dc), rv s1 (.slice A1 n1 c1) (.slice D1 m1 d1), rv s2 (.slice A2 n2 c2) (.slice D2 m2 d2), rv sa (.slice Aa na ca) (.slice Da ma da), rv sb (.slice Ab nb cb) (.slice Db mb db), rv s3 (.slice A3 n3 c3) (.slice D3 m3 d3), rv sa (.slice Aa na ca) (.slice Da ma da), rv sc (.slice Ac nc cc) (.slice Dc mc dc), rv s4 (.slice A4 n4 c4) (.slice D4 m4 d4), undef, undef, undef, undef, undef, undef, undef, undef, undef, undef, undef, undef, undef, undef, undef, undef, undef, undef, undef, undef, undef, undef, undef, undef, undef, undef, undef, undef, undef, undef, undef, undef, undef, undef, undef, undef, undef, undef, undef, undef, undef, undef, undef, undef, undef, undef, undef, undef, undef, undef, undef, undef, undef, undef, undef, undef, undef, undef, undef, undef, undef, undef, undef, undef, undef], []⟩ ∧ Sg w1.drew.heap.size w1.drew W [rblk, rblk] [none, none] (fun W => ((((True ∧ Rc W (rv s1 (.slice A1 n1 c1) (.slice D1 m1 d1)) (rb + rc) (2 * 1048576 + 1)) ∧ Rc W (rv s2 (.slice A2 n2 c2) (.slice D2 m2 d2)) (ra * (rb + rc)) (2 * (2 * 1048576 + 1))) ∧ Rc W (rv s3 (.slice A3 n3 c3) (.slice D3 m3 d3)) (ra * rb) (2 * 1048576)) ∧ Rc W (rv s4 (.slice A4 n4 c4) (.slice D4 m4 d4)) (ra * rc) (2 * 1048576)))) ?_ (fun Hs400 => ?_)
  · rintro a W ⟨s1, A1, n1, c1, D1, m1, d1, s2, A2, n2, c2, D2, m2, d2, s3, A3, n3, c3, D3, m3, d3, s4, A4, n4, c4, D4, m4, d4, rfl, st0⟩
    have hHeld := st0.1
    have st := hide st0
    clear st0
    refine wpAnyH_ready (rs := [11, 12, 13]) (by kernel_rfl) (by simp) ?_
    refine AllReadyH.cons rfl (fun K hK => ?_) ?_
    · go_simp
      go_at_call 41
      refine Calls.mono (add_r (L := 2 * 1048576) (Rc.ra st.out.2.2.1.1.2) (Rc.ra st.out.2.2.1.2) (by omega) (by omega)) ?_
      rintro e wx ⟨v9, rfl, hq, bx⟩
      obtain ⟨s5, A5, n5, c5, D5, m5, d5, rfl, tx⟩ := hq.parts
      clear hq
      try dsimp only
      have st2 := Sg.call (G := fun W => Rc W (rv s5 (.slice A5 n5 c5) (.slice D5 m5 d5)) (ra * rb + ra * rc) (2 * (2 * 1048576) + 1)) st.out bx (Firm2.and (Firm2.and (Firm2.and (Firm2.and Firm2.yes (Firm2.rc _ _ _)) (Firm2.rc _ _ _)) (Firm2.rc _ _ _)) (Firm2.rc _ _ _)) tx
      have hSt := hide st2
      refine hK.out _ _ st2.1 (fun hHeld => ?_)
      clear hK K st2
      (try simp only [Act.put, List.setIfInBounds_toArray, List.set_cons_zero, List.set_cons_succ])
      exact Hs500.out _ _ ⟨s1, A1, n1, c1, D1, m1, d1, s2, A2, n2, c2, D2, m2, d2, s3, A3, n3, c3, D3, m3, d3, s4, A4, n4, c4, D4, m4, d4, s5, A5, n5, c5, D5, m5, d5, rfl, hSt.out⟩
    refine AllReadyH.cons rfl (fun K hK => ?_) ?_
    · go_simp
      have st2 := Sg.make st.out (Firm2.and (Firm2.and (Firm2.and (Firm2.and Firm2.yes (Firm2.rc _ _ _)) (Firm2.rc _ _ _)) (Firm2.rc _ _ _)) (Firm2.rc _ _ _)) 0 _ rfl (by simp)
      refine hK.out _ _ st2.1 (fun hHeld => ?_)
      (try simp only [Act.put, List.setIfInBounds_toArray, List.set_cons_zero, List.set_cons_succ])
      exact Hs410.out _ _ ⟨s1, A1, n1, c1, D1, m1, d1, s2, A2, n2, c2, D2, m2, d2, s3, A3, n3, c3, D3, m3, d3, s4, A4, n4, c4, D4, m4, d4, W.heap.size, rfl, st2⟩
    refine AllReadyH.cons rfl (fun K hK => ?_) ?_
    · go_simp
      have st2 := Sg.make st.out (Firm2.and (Firm2.and (Firm2.and (Firm2.and Firm2.yes (Firm2.rc _ _ _)) (Firm2.rc _ _ _)) (Firm2.rc _ _ _)) (Firm2.rc _ _ _)) 1 _ rfl (by simp)
      refine hK.out _ _ st2.1 (fun hHeld => ?_)
      (try simp only [Act.put, List.setIfInBounds_toArray, List.set_cons_zero, List.set_cons_succ])
      exact Hs401.out _ _ ⟨s1, A1, n1, c1, D1, m1, d1, s2, A2, n2, c2, D2, m2, d2, s3, A3, n3, c3, D3, m3, d3, s4, A4, n4, c4, D4, m4, d4, W.heap.size, rfl, st2⟩
    exact AllReadyH.nil
  refine wpAnyH_with 4 #[true, true, true, true, true, true, true, true, true, true, false, false, true, true, false, false] (fun a W => ∃ (s1 : Bool) (A1 : Option Addr) (n1 c1 : Nat) (D1 : Option Addr) (m1 d1 : Nat) (s2 : Bool) (A2 : Option Addr) (n2 c2 : Nat) (D2 : Option Addr) (m2 d2 : Nat) (s3 : Bool) (A3 : Option Addr) (n3 c3 : Nat) (D3 : Option Addr) (m3 d3 : Nat) (g0 : Nat) (g1 : Nat), a = ⟨#[rv sa (.slice Aa na ca) (.slice Da ma da), rv sb (.slice Ab nb cb) (.slice Db mb db), rv sc (.slice Ac nc cc) (.slice Dc mc dc), .pointer (some ⟨w.heap.size, 0, none⟩), .pointer (some ⟨w.heap.size + 1, 0, none⟩), .pointer (some ⟨w.heap.size + 1 + 1, 0, none⟩), .bool false, .pointer (some ⟨g0, 0, none⟩), .pointer (some ⟨g1, 0, none⟩), undef, undef, .bool true, .bool false, rv sa (.slice Aa na ca) (.slice Da ma da), rv sb (.slice Ab nb cb) (.slice Db mb db), rv sc (.slice Ac nc cc) (.slice Dc mc dc), rv s1 (.slice A1 n1 c1) (.slice D1 m1 d1), rv s2 (.slice A2 n2 c2) (.slice D2 m2 d2), rv sa (.slice Aa na ca) (.slice Da ma da), rv sb (.slice Ab nb cb) (.slice Db mb db), rv s3 (.slice A3 n3 c3) (.slice D3 m3 d3), rv sa (.slice Aa na ca) (.slice Da ma da), rv sc (.slice Ac nc cc) (.slice Dc mc dc), undef, undef, undef, undef, undef, undef, undef, undef, undef, undef, undef, undef, undef, undef, undef, undef, undef, undef, undef, undef, undef, undef, undef, undef, undef, undef, undef, undef, undef, undef, undef, undef, undef, undef, undef, undef, undef, undef, undef, undef, undef, undef, undef, undef, undef, undef, undef, undef, undef, undef, undef, undef, undef, undef, undef, undef, undef, undef, undef, undef, undef, undef, undef, undef, undef, undef], []⟩ ∧ Sg w1.drew.heap.size w1.drew W [rblk, rblk] [some g0, some g1] (fun W => (((True ∧ Rc W (rv s1 (.slice A1 n1 c1) (.slice D1 m1 d1)) (rb + rc) (2 * 1048576 + 1)) ∧ Rc W (rv s2 (.slice A2 n2 c2) (.slice D2 m2 d2)) (ra * (rb + rc)) (2 * (2 * 1048576 + 1))) ∧ Rc W (rv s3 (.slice A3 n3 c3) (.slice D3 m3 d3)) (ra * rb) (2 * 1048576)))) ?_ (fun Hs311 => ?_)
  · rintro a W ⟨s1, A1, n1, c1, D1, m1, d1, s2, A2, n2, c2, D2, m2, d2, s3, A3, n3, c3, D3, m3, d3, g0, g1, rfl, st0⟩
    have hHeld := st0.1
    have st := hide st0
    clear st0
    refine wpAnyH_ready (rs := [10]) (by kernel_rfl) (by simp) ?_
    refine AllReadyH.cons rfl (fun K hK => ?_) ?_
    · go_simp
      go_at_call 40
      refine Calls.mono (mul_r (L := 1048576) (R.out.1.step st.out.1) (R.out.2.2.step st.out.1) (by omega) (by omega)) ?_
      rintro e wx ⟨v9, rfl, hq, bx⟩
      obtain ⟨s4, A4, n4, c4, D4, m4, d4, rfl, tx⟩ := hq.parts
      clear hq
      try dsimp only
      have st2 := Sg.call (G := fun W => Rc W (rv s4 (.slice A4 n4 c4) (.slice D4 m4 d4)) (ra * rc) (2 * 1048576)) st.out bx (Firm2.and (Firm2.and (Firm2.and Firm2.yes (Firm2.rc _ _ _)) (Firm2.rc _ _ _)) (Firm2.rc _ _ _)) tx
      have hSt := hide st2
      refine hK.out _ _ st2.1 (fun hHeld => ?_)
      clear hK K st2
      (try simp only [Act.put, List.setIfInBounds_toArray, List.set_cons_zero, List.set_cons_succ])
      exact Hs411.out _ _ ⟨s1, A1, n1, c1, D1, m1, d1, s2, A2, n2, c2, D2, m2, d2, s3, A3, n3, c3, D3, m3, d3, s4, A4, n4, c4, D4, m4, d4, g0, g1, rfl, hSt.out⟩
    exact AllReadyH.nil
  refine wpAnyH_with 5 #[true, true, true, true, true, true, true, true, true, true, false, false, true, false, false, false] (fun a W => ∃ (s1 : Bool) (A1 : Option Addr) (n1 c1 : Nat) (D1 : Option Addr) (m1 d1 : Nat) (s2 : Bool) (A2 : Option Addr) (n2 c2 : Nat) (D2 : Option Addr) (m2 d2 : Nat) (s3 : Bool) (A3 : Option Addr) (n3 c3 : Nat) (D3 : Option Addr) (m3 d3 : Nat) (g0 : Nat), a = ⟨#[rv sa (.slice Aa na ca) (.slice Da ma da), rv sb (.slice Ab nb cb) (.slice Db mb db), rv sc (.slice Ac nc cc) (.slice Dc mc dc), .pointer (some ⟨w.heap.size, 0, none⟩), .pointer (some ⟨w.heap.size + 1, 0, none⟩), .pointer (some ⟨w.heap.size + 1 + 1, 0, none⟩), .bool false, .pointer (some ⟨g0, 0, none⟩), undef, undef, undef, .bool true, .bool false, rv sa (.slice Aa na ca) (.slice Da ma da), rv sb (.slice Ab nb cb) (.slice Db mb db), rv sc (.slice Ac nc cc) (.slice Dc mc dc), rv s1 (.slice A1 n1 c1) (.slice D1 m1 d1), rv s2 (.slice A2 n2 c2) (.slice D2 m2 d2), rv sa (.slice Aa na ca) (.slice Da ma da), rv sb (.slice Ab nb cb) (.slice Db mb db), rv s3 (.slice A3 n3 c3) (.slice D3 m3 d3), rv sa (.slice Aa na ca) (.slice Da ma da), rv sc (.slice Ac nc cc) (.slice Dc mc dc), undef, undef, undef, undef, undef, undef, undef, undef, undef, undef, undef, undef, undef, undef, undef, undef, undef, undef, undef, undef, undef, undef, undef, undef, undef, undef, undef, undef, undef, undef, undef, undef, undef, undef, undef, undef, undef, undef, undef, undef, undef, undef, undef, undef, undef, undef, undef, undef, undef, undef, undef, undef, undef, undef, undef, undef, undef, undef, undef, undef, undef, undef, undef, undef, undef, undef], []⟩ ∧ Sg w1.drew.heap.size w1.drew W [rblk, rblk] [some g0, none] (fun W => (((True ∧ Rc W (rv s1 (.slice A1 n1 c1) (.slice D1 m1 d1)) (rb + rc) (2 * 1048576 + 1)) ∧ Rc W (rv s2 (.slice A2 n2 c2) (.slice D2 m2 d2)) (ra * (rb + rc)) (2 * (2 * 1048576 + 1))) ∧ Rc W (rv s3 (.slice A3 n3 c3) (.slice D3 m3 d3)) (ra * rb) (2 * 1048576)))) ?_ (fun Hs310 => ?_)
  · rintro a W ⟨s1, A1, n1, c1, D1, m1, d1, s2, A2, n2, c2, D2, m2, d2, s3, A3, n3, c3, D3, m3, d3, g0, rfl, st0⟩
    have hHeld := st0.1
    have st := hide st0
    clear st0
    refine wpAnyH_ready (rs := [10, 13]) (by kernel_rfl) (by simp) ?_
    refine AllReadyH.cons rfl (fun K hK => ?_) ?_
    · go_simp
      go_at_call 40
      refine Calls.mono (mul_r (L := 1048576) (R.out.1.step st.out.1) (R.out.2.2.step st.out.1) (by omega) (by omega)) ?_
      rintro e wx ⟨v9, rfl, hq, bx⟩
      obtain ⟨s4, A4, n4, c4, D4, m4, d4, rfl, tx⟩ := hq.parts
      clear hq
      try dsimp only
      have st2 := Sg.call (G := fun W => Rc W (rv s4 (.slice A4 n4 c4) (.slice D4 m4 d4)) (ra * rc) (2 * 1048576)) st.out bx (Firm2.and (Firm2.and (Firm2.and Firm2.yes (Firm2.rc _ _ _)) (Firm2.rc _ _ _)) (Firm2.rc _ _ _)) tx
      have hSt := hide st2
      refine hK.out _ _ st2.1 (fun hHeld => ?_)
      clear hK K st2
      (try simp only [Act.put, List.setIfInBounds_toArray, List.set_cons_zero, List.set_cons_succ])
      exact Hs410.out _ _ ⟨s1, A1, n1, c1, D1, m1, d1, s2, A2, n2, c2, D2, m2, d2, s3, A3, n3, c3, D3, m3, d3, s4, A4, n4, c4, D4, m4, d4, g0, rfl, hSt.out⟩
    refine AllReadyH.cons rfl (fun K hK => ?_) ?_
    · go_simp
      have st2 := Sg.make st.out (Firm2.and (Firm2.and (Firm2.and Firm2.yes (Firm2.rc _ _ _)) (Firm2.rc _ _ _)) (Firm2.rc _ _ _)) 1 _ rfl (by simp)
      refine hK.out _ _ st2.1 (fun hHeld => ?_)
      (try simp only [Act.put, List.setIfInBounds_toArray, List.set_cons_zero, List.set_cons_succ])
      exact Hs311.out _ _ ⟨s1, A1, n1, c1, D1, m1, d1, s2, A2, n2, c2, D2, m2, d2, s3, A3, n3, c3, D3, m3, d3, g0, W.heap.size, rfl, st2⟩
    exact AllReadyH.nil
  refine wpAnyH_with 5 #[true, true, true, true, true, true, true, true, true, true, false, false, false, true, false, false] (fun a W => ∃ (s1 : Bool) (A1 : Option Addr) (n1 c1 : Nat) (D1 : Option Addr) (m1 d1 : Nat) (s2 : Bool) (A2 : Option Addr) (n2 c2 : Nat) (D2 : Option Addr) (m2 d2 : Nat) (s3 : Bool) (A3 : Option Addr) (n3 c3 : Nat) (D3 : Option Addr) (m3 d3 : Nat) (g1 : Nat), a = ⟨#[rv sa (.slice Aa na ca) (.slice Da ma da), rv sb (.slice Ab nb cb) (.slice Db mb db), rv sc (.slice Ac nc cc) (.slice Dc mc dc), .pointer (some ⟨w.heap.size, 0, none⟩), .pointer (some ⟨w.heap.size + 1, 0, none⟩), .pointer (some ⟨w.heap.size + 1 + 1, 0, none⟩), .bool false, undef, .pointer (some ⟨g1, 0, none⟩), undef, undef, .bool true, .bool false, rv sa (.slice Aa na ca) (.slice Da ma da), rv sb (.slice Ab nb cb) (.slice Db mb db), rv sc (.slice Ac nc cc) (.slice Dc mc dc), rv s1 (.slice A1 n1 c1) (.slice D1 m1 d1), rv s2 (.slice A2 n2 c2) (.slice D2 m2 d2), rv sa (.slice Aa na ca) (.slice Da ma da), rv sb (.slice Ab nb cb) (.slice Db mb db), rv s3 (.slice A3 n3 c3) (.slice D3 m3 d3), rv sa (.slice Aa na ca) (.slice Da ma da), rv sc (.slice Ac nc cc) (.slice Dc mc dc), undef, undef, undef, undef, undef, undef, undef, undef, undef, undef, undef, undef, undef, undef, undef, undef, undef, undef, undef, undef, undef, undef, undef, undef, undef, undef, undef, undef, undef, undef, undef, undef, undef, undef, undef, undef, undef, undef, undef, undef, undef, undef, undef, undef, undef, undef, undef, undef, undef, undef, undef, undef, undef, undef, undef, undef, undef, undef, undef, undef, undef, undef, undef, undef, undef, undef], []⟩ ∧ Sg w1.drew.heap.size w1.drew W [rblk, rblk] [none, some g1] (fun W => (((True ∧ Rc W (rv s1 (.slice A1 n1 c1) (.slice D1 m1 d1)) (rb + rc) (2 * 1048576 + 1)) ∧ Rc W (rv s2 (.slice A2 n2 c2) (.slice D2 m2 d2)) (ra * (rb + rc)) (2 * (2 * 1048576 + 1))) ∧ Rc W (rv s3 (.slice A3 n3 c3) (.slice D3 m3 d3)) (ra * rb) (2 * 1048576)))) ?_ (fun Hs301 => ?_)
  · rintro a W ⟨s1, A1, n1, c1, D1, m1, d1, s2, A2, n2, c2, D2, m2, d2, s3, A3, n3, c3, D3, m3, d3, g1, rfl, st0⟩
    have hHeld := st0.1
    have st := hide st0
    clear st0
    refine wpAnyH_ready (rs := [10, 12]) (by kernel_rfl) (by simp) ?_
    refine AllReadyH.cons rfl (fun K hK => ?_) ?_
    · go_simp
      go_at_call 40
      refine Calls.mono (mul_r (L := 1048576) (R.out.1.step st.out.1) (R.out.2.2.step st.out.1) (by omega) (by omega)) ?_
      rintro e wx ⟨v9, rfl, hq, bx⟩
      obtain ⟨s4, A4, n4, c4, D4, m4, d4, rfl, tx⟩ := hq.parts
      clear hq
      try dsimp only
      have st2 := Sg.call (G := fun W => Rc W (rv s4 (.slice A4 n4 c4) (.slice D4 m4 d4)) (ra * rc) (2 * 1048576)) st.out bx (Firm2.and (Firm2.and (Firm2.and Firm2.yes (Firm2.rc _ _ _)) (Firm2.rc _ _ _)) (Firm2.rc _ _ _)) tx
      have hSt := hide st2
      refine hK.out _ _ st2.1 (fun hHeld => ?_)
      clear hK K st2
      (try simp only [Act.put, List.setIfInBounds_toArray, List.set_cons_zero, List.set_cons_succ])
      exact Hs401.out _ _ ⟨s1, A1, n1, c1, D1, m1, d1, s2, A2, n2, c2, D2, m2, d2, s3, A3, n3, c3, D3, m3, d3, s4, A4, n4, c4, D4, m4, d4, g1, rfl, hSt.out⟩
    refine AllReadyH.cons rfl (fun K hK => ?_) ?_
    · go_simp
      have st2 := Sg.make st.out (Firm2.and (Firm2.and (Firm2.and Firm2.yes (Firm2.rc _ _ _)) (Firm2.rc _ _ _)) (Firm2.rc _ _ _)) 0 _ rfl (by simp)
      refine hK.out _ _ st2.1 (fun hHeld => ?_)
      (try simp only [Act.put, List.setIfInBounds_toArray, List.set_cons_zero, List.set_cons_succ])
      exact Hs311.out _ _ ⟨s1, A1, n1, c1, D1, m1, d1, s2, A2, n2, c2, D2, m2, d2, s3, A3, n3, c3, D3, m3, d3, W.heap.size, g1, rfl, st2⟩
    exact AllReadyH.nil
  refine wpAnyH_with 6 #[true, true, true, true, true, true, true, true, true, true, false, false, false, false, false, false] (fun a W => ∃ (s1 : Bool) (A1 : Option Addr) (n1 c1 : Nat) (D1 : Option Addr) (m1 d1 : Nat) (s2 : Bool) (A2 : Option Addr) (n2 c2 : Nat) (D2 : Option Addr) (m2 d2 : Nat) (s3 : Bool) (A3 : Option Addr) (n3 c3 : Nat) (D3 : Option Addr) (m3 d3 : Nat), a = ⟨#[rv sa (.slice Aa na ca) (.slice Da ma da), rv sb (.slice Ab nb cb) (.slice Db mb db), rv sc (.slice Ac nc cc) (.slice Dc mc dc), .pointer (some ⟨w.heap.size, 0, none⟩), .pointer (some ⟨w.heap.size + 1, 0, none⟩), .pointer (some ⟨w.heap.size + 1 + 1, 0, none⟩), .bool false, undef, undef, undef, undef, .bool true, .bool false, rv sa (.slice Aa na ca) (.slice Da ma da), rv sb (.slice Ab nb cb) (.slice Db mb db), rv sc (.slice Ac nc cc) (.slice Dc mc dc), rv s1 (.slice A1 n1 c1) (.slice D1 m1 d1), rv s2 (.slice A2 n2 c2) (.slice D2 m2 d2), rv sa (.slice Aa na ca) (.slice Da ma da), rv sb (.slice Ab nb cb) (.slice Db mb db), rv s3 (.slice A3 n3 c3) (.slice D3 m3 d3), rv sa (.slice Aa na ca) (.slice Da ma da), rv sc (.slice Ac nc cc) (.slice Dc mc dc), undef, undef, undef, undef, undef, undef, undef, undef, undef, undef, undef, undef, undef, undef, undef, undef, undef, undef, undef, undef, undef, undef, undef, undef, undef, undef, undef, undef, undef, undef, undef, undef, undef, undef, undef, undef, undef, undef, undef, undef, undef, undef, undef, undef, undef, undef, undef, undef, undef, undef, undef, undef, undef, undef, undef, undef, undef, undef, undef, undef, undef, undef, undef, undef, undef, undef], []⟩ ∧ Sg w1.drew.heap.size w1.drew W [rblk, rblk] [none, none] (fun W => (((True ∧ Rc W (rv s1 (.slice A1 n1 c1) (.slice D1 m1 d1)) (rb + rc) (2 * 1048576 + 1)) ∧ Rc W (rv s2 (.slice A2 n2 c2) (.slice D2 m2 d2)) (ra * (rb + rc)) (2 * (2 * 1048576 + 1))) ∧ Rc W (rv s3 (.slice A3 n3 c3) (.slice D3 m3 d3)) (ra * rb) (2 * 1048576)))) ?_ (fun Hs300 => ?_)
  · rintro a W ⟨s1, A1, n1, c1, D1, m1, d1, s2, A2, n2, c2, D2, m2, d2, s3, A3, n3, c3, D3, m3, d3, rfl, st0⟩
    have hHeld := st0.1
    have st := hide st0
    clear st0
    refine wpAnyH_ready (rs := [10, 12, 13]) (by kernel_rfl) (by simp) ?_
    refine AllReadyH.cons rfl (fun K hK => ?_) ?_
    · go_simp
      go_at_call 40
      refine Calls.mono (mul_r (L := 1048576) (R.out.1.step st.out.1) (R.out.2.2.step st.out.1) (by omega) (by omega)) ?_
      rintro e wx ⟨v9, rfl, hq, bx⟩
      obtain ⟨s4, A4, n4, c4, D4, m4, d4, rfl, tx⟩ := hq.parts
      clear hq
      try dsimp only
      have st2 := Sg.call (G := fun W => Rc W (rv s4 (.slice A4 n4 c4) (.slice D4 m4 d4)) (ra * rc) (2 * 1048576)) st.out bx (Firm2.and (Firm2.and (Firm2.and Firm2.yes (Firm2.rc _ _ _)) (Firm2.rc _ _ _)) (Firm2.rc _ _ _)) tx
      have hSt := hide st2
      refine hK.out _ _ st2.1 (fun hHeld => ?_)
      clear hK K st2
      (try simp only [Act.put, List.setIfInBounds_toArray, List.set_cons_zero, List.set_cons_succ])
      exact Hs400.out _ _ ⟨s1, A1, n1, c1, D1, m1, d1, s2, A2, n2, c2, D2, m2, d2, s3, A3, n3, c3, D3, m3, d3, s4, A4, n4, c4, D4, m4, d4, rfl, hSt.out⟩
    refine AllReadyH.cons rfl (fun K hK => ?_) ?_
    · go_simp
      have st2 := Sg.make st.out (Firm2.and (Firm2.and (Firm2.and Firm2.yes (Firm2.rc _ _ _)) (Firm2.rc _ _ _)) (Firm2.rc _ _ _)) 0 _ rfl (by simp)
      refine hK.out _ _ st2.1 (fun hHeld => ?_)
      (try simp only [Act.put, List.setIfInBounds_toArray, List.set_cons_zero, List.set_cons_succ])
      exact Hs310.out _ _ ⟨s1, A1, n1, c1, D1, m1, d1, s2, A2, n2, c2, D2, m2, d2, s3, A3, n3, c3, D3, m3, d3, W.heap.size, rfl, st2⟩
    refine AllReadyH.cons rfl (fun K hK => ?_) ?_
    · go_simp
      have st2 := Sg.make st.out (Firm2.and (Firm2.and (Firm2.and Firm2.yes (Firm2.rc _ _ _)) (Firm2.rc _ _ _)) (Firm2.rc _ _ _)) 1 _ rfl (by simp)
      refine hK.out _ _ st2.1 (fun hHeld => ?_)
      (try simp only [Act.put, List.setIfInBounds_toArray, List.set_cons_zero, List.set_cons_succ])
      exact Hs301.out _ _ ⟨s1, A1, n1, c1, D1, m1, d1, s2, A2, n2, c2, D2, m2, d2, s3, A3, n3, c3, D3, m3, d3, W.heap.size, rfl, st2⟩
    exact AllReadyH.nil
  refine wpAnyH_with 5 #[true, true, true, true, true, true, true, false, true, true, false, false, true, true, false, false] (fun a W => ∃ (s1 : Bool) (A1 : Option Addr) (n1 c1 : Nat) (D1 : Option Addr) (m1 d1 : Nat) (s2 : Bool) (A2 : Option Addr) (n2 c2 : Nat) (D2 : Option Addr) (m2 d2 : Nat) (g0 : Nat) (g1 : Nat), a = ⟨#[rv sa (.slice Aa na ca) (.slice Da ma da), rv sb (.slice Ab nb cb) (.slice Db mb db), rv sc (.slice Ac nc cc) (.slice Dc mc dc), .pointer (some ⟨w.heap.size, 0, none⟩), .pointer (some ⟨w.heap.size + 1, 0, none⟩), .pointer (some ⟨w.heap.size + 1 + 1, 0, none⟩), .bool false, .pointer (some ⟨g0, 0, none⟩), .pointer (some ⟨g1, 0, none⟩), undef, undef, .bool true, .bool false, rv sa (.slice Aa na ca) (.slice Da ma da), rv sb (.slice Ab nb cb) (.slice Db mb db), rv sc (.slice Ac nc cc) (.slice Dc mc dc), rv s1 (.slice A1 n1 c1) (.slice D1 m1 d1), rv s2 (.slice A2 n2 c2) (.slice D2 m2 d2), rv sa (.slice Aa na ca) (.slice Da ma da), rv sb (.slice Ab nb cb) (.slice Db mb db), undef, rv sa (.slice Aa na ca) (.slice Da ma da), rv sc (.slice Ac nc cc) (.slice Dc mc dc), undef, undef, undef, undef, undef, undef, undef, undef, undef, undef, undef, undef, undef, undef, undef, undef, undef, undef, undef, undef, undef, undef, undef, undef, undef, undef, undef, undef, undef, undef, undef, undef, undef, undef, undef, undef, undef, undef, undef, undef, undef, undef, undef, undef, undef, undef, undef, undef, undef, undef, undef, undef, undef, undef, undef, undef, undef, undef, undef, undef, undef, undef, undef, undef, undef, undef], []⟩ ∧ Sg w1.drew.heap.size w1.drew W [rblk, rblk] [some g0, some g1] (fun W => ((True ∧ Rc W (rv s1 (.slice A1 n1 c1) (.slice D1 m1 d1)) (rb + rc) (2 * 1048576 + 1)) ∧ Rc W (rv s2 (.slice A2 n2 c2) (.slice D2 m2 d2)) (ra * (rb + rc)) (2 * (2 * 1048576 + 1))))) ?_ (fun Hs211 => ?_)
  · rintro a W ⟨s1, A1, n1, c1, D1, m1, d1, s2, A2, n2, c2, D2, m2, d2, g0, g1, rfl, st0⟩
    have hHeld := st0.1
    have st := hide st0
    clear st0
    refine wpAnyH_ready (rs := [7]) (by kernel_rfl) (by simp) ?_
    refine AllReadyH.cons rfl (fun K hK => ?_) ?_
    · go_simp
      go_at_call 40
      refine Calls.mono (mul_r (L := 1048576) (R.out.1.step st.out.1) (R.out.2.1.step st.out.1) (by omega) (by omega)) ?_
      rintro e wx ⟨v9, rfl, hq, bx⟩
      obtain ⟨s3, A3, n3, c3, D3, m3, d3, rfl, tx⟩ := hq.parts
      clear hq
      try dsimp only
      have st2 := Sg.call (G := fun W => Rc W (rv s3 (.slice A3 n3 c3) (.slice D3 m3 d3)) (ra * rb) (2 * 1048576)) st.out bx (Firm2.and (Firm2.and Firm2.yes (Firm2.rc _ _ _)) (Firm2.rc _ _ _)) tx
      have hSt := hide st2
      refine hK.out _ _ st2.1 (fun hHeld => ?_)
      clear hK K st2
      (try simp only [Act.put, List.setIfInBounds_toArray, List.set_cons_zero, List.set_cons_succ])
      exact Hs311.out _ _ ⟨s1, A1, n1, c1, D1, m1, d1, s2, A2, n2, c2, D2, m2, d2, s3, A3, n3, c3, D3, m3, d3, g0, g1, rfl, hSt.out⟩
    exact AllReadyH.nil
  refine wpAnyH_with 6 #[true, true, true, true, true, true, true, false, true, true, false, false, true, false, false, false] (fun a W => ∃ (s1 : Bool) (A1 : Option Addr) (n1 c1 : Nat) (D1 : Option Addr) (m1 d1 : Nat) (s2 : Bool) (A2 : Option Addr) (n2 c2 : Nat) (D2 : Option Addr) (m2 d2 : Nat) (g0 : Nat), a = ⟨#[rv sa (.slice Aa na ca) (.slice Da ma da), rv sb (.slice Ab nb cb) (.slice Db mb db), rv sc (.slice Ac nc cc) (.slice Dc mc dc), .pointer (some ⟨w.heap.size, 0, none⟩), .pointer (some ⟨w.heap.size + 1, 0, none⟩), .pointer (some ⟨w.heap.size + 1 + 1, 0, none⟩), .bool false, .pointer (some ⟨g0, 0, none⟩), undef, undef, undef, .bool true, .bool false, rv sa (.slice Aa na ca) (.slice Da ma da), rv sb (.slice Ab nb cb) (.slice Db mb db), rv sc (.slice Ac nc cc) (.slice Dc mc dc), rv s1 (.slice A1 n1 c1) (.slice D1 m1 d1), rv s2 (.slice A2 n2 c2) (.slice D2 m2 d2), rv sa (.slice Aa na ca) (.slice Da ma da), rv sb (.slice Ab nb cb) (.slice Db mb db), undef, rv sa (.slice Aa na ca) (.slice Da ma da), rv sc (.slice Ac nc cc) (.slice Dc mc dc), undef, undef, undef, undef, undef, undef, undef, undef, undef, undef, undef, undef, undef, undef, undef, undef, undef, undef, undef, undef, undef, undef, undef, undef, undef, undef, undef, undef, undef, undef, undef, undef, undef, undef, undef, undef, undef, undef, undef, undef, undef, undef, undef, undef, undef, undef, undef, undef, undef, undef, undef, undef, undef, undef, undef, undef, undef, undef, undef, undef, undef, undef, undef, undef, undef, undef], []⟩ ∧ Sg w1.drew.heap.size w1.drew W [rblk, rblk] [some g0, none] (fun W => ((True ∧ Rc W (rv s1 (.slice A1 n1 c1) (.slice D1 m1 d1)) (rb + rc) (2 * 1048576 + 1)) ∧ Rc W (rv s2 (.slice A2 n2 c2) (.slice D2 m2 d2)) (ra * (rb + rc)) (2 * (2 * 1048576 + 1))))) ?_ (fun Hs210 => ?_)
  · rintro a W ⟨s1, A1, n1, c1, D1, m1, d1, s2, A2, n2, c2, D2, m2, d2, g0, rfl, st0⟩
    have hHeld := st0.1
    have st := hide st0
    clear st0
    refine wpAnyH_ready (rs := [7, 13]) (by kernel_rfl) (by simp) ?_
    refine AllReadyH.cons rfl (fun K hK => ?_) ?_
    · go_simp
      go_at_call 40
      refine Calls.mono (mul_r (L := 1048576) (R.out.1.step st.out.1) (R.out.2.1.step st.out.1) (by omega) (by omega)) ?_
      rintro e wx ⟨v9, rfl, hq, bx⟩
      obtain ⟨s3, A3, n3, c3, D3, m3, d3, rfl, tx⟩ := hq.parts
      clear hq
      try dsimp only
      have st2 := Sg.call (G := fun W => Rc W (rv s3 (.slice A3 n3 c3) (.slice D3 m3 d3)) (ra * rb) (2 * 1048576)) st.out bx (Firm2.and (Firm2.and Firm2.yes (Firm2.rc _ _ _)) (Firm2.rc _ _ _)) tx
      have hSt := hide st2
      refine hK.out _ _ st2.1 (fun hHeld => ?_)
      clear hK K st2
      (try simp only [Act.put, List.setIfInBounds_toArray, List.set_cons_zero, List.set_cons_succ])
      exact Hs310.out _ _ ⟨s1, A1, n1, c1, D1, m1, d1, s2, A2, n2, c2, D2, m2, d2, s3, A3, n3, c3, D3, m3, d3, g0, rfl, hSt.out⟩
    refine AllReadyH.cons rfl (fun K hK => ?_) ?_
    · go_simp
      have st2 := Sg.make st.out (Firm2.and (Firm2.and Firm2.yes (Firm2.rc _ _ _)) (Firm2.rc _ _ _)) 1 _ rfl (by simp)
      refine hK.out _ _ st2.1 (fun hHeld => ?_)
      (try simp only [Act.put, List.setIfInBounds_toArray, List.set_cons_zero, List.set_cons_succ])
      exact Hs211.out _ _ ⟨s1, A1, n1, c1, D1, m1, d1, s2, A2, n2, c2, D2, m2, d2, g0, W.heap.size, rfl, st2⟩
    exact AllReadyH.nil
  refine wpAnyH_with 6 #[true, true, true, true, true, true, true, false, true, true, false, false, false, true, false, false] (fun a W => ∃ (s1 : Bool) (A1 : Option Addr) (n1 c1 : Nat) (D1 : Option Addr) (m1 d1 : Nat) (s2 : Bool) (A2 : Option Addr) (n2 c2 : Nat) (D2 : Option Addr) (m2 d2 : Nat) (g1 : Nat), a = ⟨#[rv sa (.slice Aa na ca) (.slice Da ma da), rv sb (.slice Ab nb cb) (.slice Db mb db), rv sc (.slice Ac nc cc) (.slice Dc mc dc), .pointer (some ⟨w.heap.size, 0, none⟩), .pointer (some ⟨w.heap.size + 1, 0, none⟩), .pointer (some ⟨w.heap.size + 1 + 1, 0, none⟩), .bool false, undef, .pointer (some ⟨g1, 0, none⟩), undef, undef, .bool true, .bool false, rv sa (.slice Aa na ca) (.slice Da ma da), rv sb (.slice Ab nb cb) (.slice Db mb db), rv sc (.slice Ac nc cc) (.slice Dc mc dc), rv s1 (.slice A1 n1 c1) (.slice D1 m1 d1), rv s2 (.slice A2 n2 c2) (.slice D2 m2 d2), rv sa (.slice Aa na ca) (.slice Da ma da), rv sb (.slice Ab nb cb) (.slice Db mb db), undef, rv sa (.slice Aa na ca) (.slice Da ma da), rv sc (.slice Ac nc cc) (.slice Dc mc dc), undef, undef, undef, undef, undef, undef, undef, undef, undef, undef, undef, undef, undef, undef, undef, undef, undef, undef, undef, undef, undef, undef, undef, undef, undef, undef, undef, undef, undef, undef, undef, undef, undef, undef, undef, undef, undef, undef, undef, undef, undef, undef, undef, undef, undef, undef, undef, undef, undef, undef, undef, undef, undef, undef, undef, undef, undef, undef, undef, undef, undef, undef, undef, undef, undef, undef], []⟩ ∧ Sg w1.drew.heap.size w1.drew W [rblk, rblk] [none, some g1] (fun W => ((True ∧ Rc W (rv s1 (.slice A1 n1 c1) (.slice D1 m1 d1)) (rb + rc) (2 * 1048576 + 1)) ∧ Rc W (rv s2 (.slice A2 n2 c2) (.slice D2 m2 d2)) (ra * (rb + rc)) (2 * (2 * 1048576 + 1))))) ?_ (fun Hs201 => ?_)
  · rintro a W ⟨s1, A1, n1, c1, D1, m1, d1, s2, A2, n2, c2, D2, m2, d2, g1, rfl, st0⟩
    have hHeld := st0.1
    have st := hide st0
    clear st0
    refine wpAnyH_ready (rs := [7, 12]) (by kernel_rfl) (by simp) ?_
    refine AllReadyH.cons rfl (fun K hK => ?_) ?_
    · go_simp
      go_at_call 40
      refine Calls.mono (mul_r (L := 1048576) (R.out.1.step st.out.1) (R.out.2.1.step st.out.1) (by omega) (by omega)) ?_
      rintro e wx ⟨v9, rfl, hq, bx⟩
      obtain ⟨s3, A3, n3, c3, D3, m3, d3, rfl, tx⟩ := hq.parts
      clear hq
      try dsimp only
      have st2 := Sg.call (G := fun W => Rc W (rv s3 (.slice A3 n3 c3) (.slice D3 m3 d3)) (ra * rb) (2 * 1048576)) st.out bx (Firm2.and (Firm2.and Firm2.yes (Firm2.rc _ _ _)) (Firm2.rc _ _ _)) tx
      have hSt := hide st2
      refine hK.out _ _ st2.1 (fun hHeld => ?_)
      clear hK K st2
      (try simp only [Act.put, List.setIfInBounds_toArray, List.set_cons_zero, List.set_cons_succ])
      exact Hs301.out _ _ ⟨s1, A1, n1, c1, D1, m1, d1, s2, A2, n2, c2, D2, m2, d2, s3, A3, n3, c3, D3, m3, d3, g1, rfl, hSt.out⟩
    refine AllReadyH.cons rfl (fun K hK => ?_) ?_
    · go_simp
      have st2 := Sg.make st.out (Firm2.and (Firm2.and Firm2.yes (Firm2.rc _ _ _)) (Firm2.rc _ _ _)) 0 _ rfl (by simp)
      refine hK.out _ _ st2.1 (fun hHeld => ?_)
      (try simp only [Act.put, List.setIfInBounds_toArray, List.set_cons_zero, List.set_cons_succ])
      exact Hs211.out _ _ ⟨s1, A1, n1, c1, D1, m1, d1, s2, A2, n2, c2, D2, m2, d2, W.heap.size, g1, rfl, st2⟩
    exact AllReadyH.nil
  refine wpAnyH_with 7 #[true, true, true, true, true, true, true, false, true, true, false, false, false, false, false, false] (fun a W => ∃ (s1 : Bool) (A1 : Option Addr) (n1 c1 : Nat) (D1 : Option Addr) (m1 d1 : Nat) (s2 : Bool) (A2 : Option Addr) (n2 c2 : Nat) (D2 : Option Addr) (m2 d2 : Nat), a = ⟨#[rv sa (.slice Aa na ca) (.slice Da ma da), rv sb (.slice Ab nb cb) (.slice Db mb db), rv sc (.slice Ac nc cc) (.slice Dc mc dc), .pointer (some ⟨w.heap.size, 0, none⟩), .pointer (some ⟨w.heap.size + 1, 0, none⟩), .pointer (some ⟨w.heap.size + 1 + 1, 0, none⟩), .bool false, undef, undef, undef, undef, .bool true, .bool false, rv sa (.slice Aa na ca) (.slice Da ma da), rv sb (.slice Ab nb cb) (.slice Db mb db), rv sc (.slice Ac nc cc) (.slice Dc mc dc), rv s1 (.slice A1 n1 c1) (.slice D1 m1 d1), rv s2 (.slice A2 n2 c2) (.slice D2 m2 d2), rv sa (.slice Aa na ca) (.slice Da ma da), rv sb (.slice Ab nb cb) (.slice Db mb db), undef, rv sa (.slice Aa na ca) (.slice Da ma da), rv sc (.slice Ac nc cc) (.slice Dc mc dc), undef, undef, undef, undef, undef, undef, undef, undef, undef, undef, undef, undef, undef, undef, undef, undef, undef, undef, undef, undef, undef, undef, undef, undef, undef, undef, undef, undef, undef, undef, undef, undef, undef, undef, undef, undef, undef, undef, undef, undef, undef, undef, undef, undef, undef, undef, undef, undef, undef, undef, undef, undef, undef, undef, undef, undef, undef, undef, undef, undef, undef, undef, undef, undef, undef, undef], []⟩ ∧ Sg w1.drew.heap.size w1.drew W [rblk, rblk] [none, none] (fun W => ((True ∧ Rc W (rv s1 (.slice A1 n1 c1) (.slice D1 m1 d1)) (rb + rc) (2 * 1048576 + 1)) ∧ Rc W (rv s2 (.slice A2 n2 c2) (.slice D2 m2 d2)) (ra * (rb + rc)) (2 * (2 * 1048576 + 1))))) ?_ (fun Hs200 => ?_)
  · rintro a W ⟨s1, A1, n1, c1, D1, m1, d1, s2, A2, n2, c2, D2, m2, d2, rfl, st0⟩
    have hHeld := st0.1
    have st := hide st0
    clear st0
    refine wpAnyH_ready (rs := [7, 12, 13]) (by kernel_rfl) (by simp) ?_
    refine AllReadyH.cons rfl (fun K hK => ?_) ?_
    · go_simp
      go_at_call 40
      refine Calls.mono (mul_r (L := 1048576) (R.out.1.step st.out.1) (R.out.2.1.step st.out.1) (by omega) (by omega)) ?_
      rintro e wx ⟨v9, rfl, hq, bx⟩
      obtain ⟨s3, A3, n3, c3, D3, m3, d3, rfl, tx⟩ := hq.parts
      clear hq
      try dsimp only
      have st2 := Sg.call (G := fun W => Rc W (rv s3 (.slice A3 n3 c3) (.slice D3 m3 d3)) (ra * rb) (2 * 1048576)) st.out bx (Firm2.and (Firm2.and Firm2.yes (Firm2.rc _ _ _)) (Firm2.rc _ _ _)) tx
      have hSt := hide st2
      refine hK.out _ _ st2.1 (fun hHeld => ?_)
      clear hK K st2
      (try simp only [Act.put, List.setIfInBounds_toArray, List.set_cons_zero, List.set_cons_succ])
      exact Hs300.out _ _ ⟨s1, A1, n1, c1, D1, m1, d1, s2, A2, n2, c2, D2, m2, d2, s3, A3, n3, c3, D3, m3, d3, rfl, hSt.out⟩
    refine AllReadyH.cons rfl (fun K hK => ?_) ?_
    · go_simp
      have st2 := Sg.make st.out (Firm2.and (Firm2.and Firm2.yes (Firm2.rc _ _ _)) (Firm2.rc _ _ _)) 0 _ rfl (by simp)
      refine hK.out _ _ st2.1 (fun hHeld => ?_)
      (try simp only [Act.put, List.setIfInBounds_toArray, List.set_cons_zero, List.set_cons_succ])
      exact Hs210.out _ _ ⟨s1, A1, n1, c1, D1, m1, d1, s2, A2, n2, c2, D2, m2, d2, W.heap.size, rfl, st2⟩
    refine AllReadyH.cons rfl (fun K hK => ?_) ?_
    · go_simp
      have st2 := Sg.make st.out (Firm2.and (Firm2.and Firm2.yes (Firm2.rc _ _ _)) (Firm2.rc _ _ _)) 1 _ rfl (by simp)
      refine hK.out _ _ st2.1 (fun hHeld => ?_)
      (try simp only [Act.put, List.setIfInBounds_toArray, List.set_cons_zero, List.set_cons_succ])
      exact Hs201.out _ _ ⟨s1, A1, n1, c1, D1, m1, d1, s2, A2, n2, c2, D2, m2, d2, W.heap.size, rfl, st2⟩
    exact AllReadyH.nil
  refine wpAnyH_with 6 #[true, true, true, true, false, true, true, false, true, true, false, false, true, true, false, false] (fun a W => ∃ (s1 : Bool) (A1 : Option Addr) (n1 c1 : Nat) (D1 : Option Addr) (m1 d1 : Nat) (g0 : Nat) (g1 : Nat), a = ⟨#[rv sa (.slice Aa na ca) (.slice Da ma da), rv sb (.slice Ab nb cb) (.slice Db mb db), rv sc (.slice Ac nc cc) (.slice Dc mc dc), .pointer (some ⟨w.heap.size, 0, none⟩), .pointer (some ⟨w.heap.size + 1, 0, none⟩), .pointer (some ⟨w.heap.size + 1 + 1, 0, none⟩), .bool false, .pointer (some ⟨g0, 0, none⟩), .pointer (some ⟨g1, 0, none⟩), undef, undef, .bool true, .bool false, rv sa (.slice Aa na ca) (.slice Da ma da), rv sb (.slice Ab nb cb) (.slice Db mb db), rv sc (.slice Ac nc cc) (.slice Dc mc dc), rv s1 (.slice A1 n1 c1) (.slice D1 m1 d1), undef, rv sa (.slice Aa na ca) (.slice Da ma da), rv sb (.slice Ab nb cb) (.slice Db mb db), undef, rv sa (.slice Aa na ca) (.slice Da ma da), rv sc (.slice Ac nc cc) (.slice Dc mc dc), undef, undef, undef, undef, undef, undef, undef, undef, undef, undef, undef, undef, undef, undef, undef, undef, undef, undef, undef, undef, undef, undef, undef, undef, undef, undef, undef, undef, undef, undef, undef, undef, undef, undef, undef, undef, undef, undef, undef, undef, undef, undef, undef, undef, undef, undef, undef, undef, undef, undef, undef, undef, undef, undef, undef, undef, undef, undef, undef, undef, undef, undef, undef, undef, undef, undef], []⟩ ∧ Sg w1.drew.heap.size w1.drew W [rblk, rblk] [some g0, some g1] (fun W => (True ∧ Rc W (rv s1 (.slice A1 n1 c1) (.slice D1 m1 d1)) (rb + rc) (2 * 1048576 + 1)))) ?_ (fun Hs111 => ?_)
  · rintro a W ⟨s1, A1, n1, c1, D1, m1, d1, g0, g1, rfl, st0⟩
    have hHeld := st0.1
    have st := hide st0
    clear st0
    refine wpAnyH_ready (rs := [4]) (by kernel_rfl) (by simp) ?_
    refine AllReadyH.cons rfl (fun K hK => ?_) ?_
    · go_simp
      go_at_call 40
      refine Calls.mono (mul_r (L := 2 * 1048576 + 1) ((R.out.1.step st.out.1).more (by omega)) (Rc.ra st.out.2.2.1.2) (by omega) (by omega)) ?_
      rintro e wx ⟨v9, rfl, hq, bx⟩
      obtain ⟨s2, A2, n2, c2, D2, m2, d2, rfl, tx⟩ := hq.parts
      clear hq
      try dsimp only
      have st2 := Sg.call (G := fun W => Rc W (rv s2 (.slice A2 n2 c2) (.slice D2 m2 d2)) (ra * (rb + rc)) (2 * (2 * 1048576 + 1))) st.out bx (Firm2.and Firm2.yes (Firm2.rc _ _ _)) tx
      have hSt := hide st2
      refine hK.out _ _ st2.1 (fun hHeld => ?_)
      clear hK K st2
      (try simp only [Act.put, List.setIfInBounds_toArray, List.set_cons_zero, List.set_cons_succ])
      exact Hs211.out _ _ ⟨s1, A1, n1, c1, D1, m1, d1, s2, A2, n2, c2, D2, m2, d2, g0, g1, rfl, hSt.out⟩
    exact AllReadyH.nil
  refine wpAnyH_with 7 #[true, true, true, true, false, true, true, false, true, true, false, false, true, false, false, false] (fun a W => ∃ (s1 : Bool) (A1 : Option Addr) (n1 c1 : Nat) (D1 : Option Addr) (m1 d1 : Nat) (g0 : Nat), a = ⟨#[rv sa (.slice Aa na ca) (.slice Da ma da), rv sb (.slice Ab nb cb) (.slice Db mb db), rv sc (.slice Ac nc cc) (.slice Dc mc dc), .pointer (some ⟨w.heap.size, 0, none⟩), .pointer (some ⟨w.heap.size + 1, 0, none⟩), .pointer (some ⟨w.heap.size + 1 + 1, 0, none⟩), .bool false, .pointer (some ⟨g0, 0, none⟩), undef, undef, undef, .bool true, .bool false, rv sa (.slice Aa na ca) (.slice Da ma da), rv sb (.slice Ab nb cb) (.slice Db mb db), rv sc (.slice Ac nc cc) (.slice Dc mc dc), rv s1 (.slice A1 n1 c1) (.slice D1 m1 d1), undef, rv sa (.slice Aa na ca) (.slice Da ma da), rv sb (.slice Ab nb cb) (.slice Db mb db), undef, rv sa (.slice Aa na ca) (.slice Da ma da), rv sc (.slice Ac nc cc) (.slice Dc mc dc), undef, undef, undef, undef, undef, undef, undef, undef, undef, undef, undef, undef, undef, undef, undef, undef, undef, undef, undef, undef, undef, undef, undef, undef, undef, undef, undef, undef, undef, undef, undef, undef, undef, undef, undef, undef, undef, undef, undef, undef, undef, undef, undef, undef, undef, undef, undef, undef, undef, undef, undef, undef, undef, undef, undef, undef, undef, undef, undef, undef, undef, undef, undef, undef, undef, undef], []⟩ ∧ Sg w1.drew.heap.size w1.drew W [rblk, rblk] [some g0, none] (fun W => (True ∧ Rc W (rv s1 (.slice A1 n1 c1) (.slice D1 m1 d1)) (rb + rc) (2 * 1048576 + 1)))) ?_ (fun Hs110 => ?_)
  · rintro a W ⟨s1, A1, n1, c1, D1, m1, d1, g0, rfl, st0⟩
    have hHeld := st0.1
    have st := hide st0
    clear st0
    refine wpAnyH_ready (rs := [4, 13]) (by kernel_rfl) (by simp) ?_
    refine AllReadyH.cons rfl (fun K hK => ?_) ?_
    · go_simp
      go_at_call 40
      refine Calls.mono (mul_r (L := 2 * 1048576 + 1) ((R.out.1.step st.out.1).more (by omega)) (Rc.ra st.out.2.2.1.2) (by omega) (by omega)) ?_
      rintro e wx ⟨v9, rfl, hq, bx⟩
      obtain ⟨s2, A2, n2, c2, D2, m2, d2, rfl, tx⟩ := hq.parts
      clear hq
      try dsimp only
      have st2 := Sg.call (G := fun W => Rc W (rv s2 (.slice A2 n2 c2) (.slice D2 m2 d2)) (ra * (rb + rc)) (2 * (2 * 1048576 + 1))) st.out bx (Firm2.and Firm2.yes (Firm2.rc _ _ _)) tx
      have hSt := hide st2
      refine hK.out _ _ st2.1 (fun hHeld => ?_)
      clear hK K st2
      (try simp only [Act.put, List.setIfInBounds_toArray, List.set_cons_zero, List.set_cons_succ])
      exact Hs210.out _ _ ⟨s1, A1, n1, c1, D1, m1, d1, s2, A2, n2, c2, D2, m2, d2, g0, rfl, hSt.out⟩
    refine AllReadyH.cons rfl (fun K hK => ?_) ?_
    · go_simp
      have st2 := Sg.make st.out (Firm2.and Firm2.yes (Firm2.rc _ _ _)) 1 _ rfl (by simp)
      refine hK.out _ _ st2.1 (fun hHeld => ?_)
      (try simp only [Act.put, List.setIfInBounds_toArray, List.set_cons_zero, List.set_cons_succ])
      exact Hs111.out _ _ ⟨s1, A1, n1, c1, D1, m1, d1, g0, W.heap.size, rfl, st2⟩
    exact AllReadyH.nil
  refine wpAnyH_with 7 #[true, true, true, true, false, true, true, false, true, true, false, false, false, true, false, false] (fun a W => ∃ (s1 : Bool) (A1 : Option Addr) (n1 c1 : Nat) (D1 : Option Addr) (m1 d1 : Nat) (g1 : Nat), a = ⟨#[rv sa (.slice Aa na ca) (.slice Da ma da), rv sb (.slice Ab nb cb) (.slice Db mb db), rv sc (.slice Ac nc cc) (.slice Dc mc dc), .pointer (some ⟨w.heap.size, 0, none⟩), .pointer (some ⟨w.heap.size + 1, 0, none⟩), .pointer (some ⟨w.heap.size + 1 + 1, 0, none⟩), .bool false, undef, .pointer (some ⟨g1, 0, none⟩), undef, undef, .bool true, .bool false, rv sa (.slice Aa na ca) (.slice Da ma da), rv sb (.slice Ab nb cb) (.slice Db mb db), rv sc (.slice Ac nc cc) (.slice Dc mc dc), rv s1 (.slice A1 n1 c1) (.slice D1 m1 d1), undef, rv sa (.slice Aa na ca) (.slice Da ma da), rv sb (.slice Ab nb cb) (.slice Db mb db), undef, rv sa (.slice Aa na ca) (.slice Da ma da), rv sc (.slice Ac nc cc) (.slice Dc mc dc), undef, undef, undef, undef, undef, undef, undef, undef, undef, undef, undef, undef, undef, undef, undef, undef, undef, undef, undef, undef, undef, undef, undef, undef, undef, undef, undef, undef, undef, undef, undef, undef, undef, undef, undef, undef, undef, undef, undef, undef, undef, undef, undef, undef, undef, undef, undef, undef, undef, undef, undef, undef, undef, undef, undef, undef, undef, undef, undef, undef, undef, undef, undef, undef, undef, undef], []⟩ ∧ Sg w1.drew.heap.size w1.drew W [rblk, rblk] [none, some g1] (fun W => (True ∧ Rc W (rv s1 (.slice A1 n1 c1) (.slice D1 m1 d1)) (rb + rc) (2 * 1048576 + 1)))) ?_ (fun Hs101 => ?_)
  · rintro a W ⟨s1, A1, n1, c1, D1, m1, d1, g1, rfl, st0⟩
    have hHeld := st0.1
    have st := hide st0
    clear st0
    refine wpAnyH_ready (rs := [4, 12]) (by kernel_rfl) (by simp) ?_
    refine AllReadyH.cons rfl (fun K hK => ?_) ?_
    · go_simp
      go_at_call 40
      refine Calls.mono (mul_r (L := 2 * 1048576 + 1) ((R.out.1.step st.out.1).more (by omega)) (Rc.ra st.out.2.2.1.2) (by omega) (by omega)) ?_
      rintro e wx ⟨v9, rfl, hq, bx⟩
      obtain ⟨s2, A2, n2, c2, D2, m2, d2, rfl, tx⟩ := hq.parts
      clear hq
      try dsimp only
      have st2 := Sg.call (G := fun W => Rc W (rv s2 (.slice A2 n2 c2) (.slice D2 m2 d2)) (ra * (rb + rc)) (2 * (2 * 1048576 + 1))) st.out bx (Firm2.and Firm2.yes (Firm2.rc _ _ _)) tx
      have hSt := hide st2
      refine hK.out _ _ st2.1 (fun hHeld => ?_)
      clear hK K st2
      (try simp only [Act.put, List.setIfInBounds_toArray, List.set_cons_zero, List.set_cons_succ])
      exact Hs201.out _ _ ⟨s1, A1, n1, c1, D1, m1, d1, s2, A2, n2, c2, D2, m2, d2, g1, rfl, hSt.out⟩
    refine AllReadyH.cons rfl (fun K hK => ?_) ?_
    · go_simp
      have st2 := Sg.make st.out (Firm2.and Firm2.yes (Firm2.rc _ _ _)) 0 _ rfl (by simp)
      refine hK.out _ _ st2.1 (fun hHeld => ?_)
      (try simp only [Act.put, List.setIfInBounds_toArray, List.set_cons_zero, List.set_cons_succ])
      exact Hs111.out _ _ ⟨s1, A1, n1, c1, D1, m1, d1, W.heap.size, g1, rfl, st2⟩
    exact AllReadyH.nil
  refine wpAnyH_with 8 #[true, true, true, true, false, true, true, false, true, true, false, false, false, false, false, false] (fun a W => ∃ (s1 : Bool) (A1 : Option Addr) (n1 c1 : Nat) (D1 : Option Addr) (m1 d1 : Nat), a = ⟨#[rv sa (.slice Aa na ca) (.slice Da ma da), rv sb (.slice Ab nb cb) (.slice Db mb db), rv sc (.slice Ac nc cc) (.slice Dc mc dc), .pointer (some ⟨w.heap.size, 0, none⟩), .pointer (some ⟨w.heap.size + 1, 0, none⟩), .pointer (some ⟨w.heap.size + 1 + 1, 0, none⟩), .bool false, undef, undef, undef, undef, .bool true, .bool false, rv sa (.slice Aa na ca) (.slice Da ma da), rv sb (.slice Ab nb cb) (.slice Db mb db), rv sc (.slice Ac nc cc) (.slice Dc mc dc), rv s1 (.slice A1 n1 c1) (.slice D1 m1 d1), undef, rv sa (.slice Aa na ca) (.slice Da ma da), rv sb (.slice Ab nb cb) (.slice Db mb db), undef, rv sa (.slice Aa na ca) (.slice Da ma da), rv sc (.slice Ac nc cc) (.slice Dc mc dc), undef, undef, undef, undef, undef, undef, undef, undef, undef, undef, undef, undef, undef, undef, undef, undef, undef, undef, undef, undef, undef, undef, undef, undef, undef, undef, undef, undef, undef, undef, undef, undef, undef, undef, undef, undef, undef, undef, undef, undef, undef, undef, undef, undef, undef, undef, undef, undef, undef, undef, undef, undef, undef, undef, undef, undef, undef, undef, undef, undef, undef, undef, undef, undef, undef, undef], []⟩ ∧ Sg w1.drew.heap.size w1.drew W [rblk, rblk] [none, none] (fun W => (True ∧ Rc W (rv s1 (.slice A1 n1 c1) (.slice D1 m1 d1)) (rb + rc) (2 * 1048576 + 1)))) ?_ (fun Hs100 => ?_)
  · rintro a W ⟨s1, A1, n1, c1, D1, m1, d1, rfl, st0⟩
    have hHeld := st0.1
    have st := hide st0
    clear st0
    refine wpAnyH_ready (rs := [4, 12, 13]) (by kernel_rfl) (by simp) ?_
    refine AllReadyH.cons rfl (fun K hK => ?_) ?_
    · go_simp
      go_at_call 40
      refine Calls.mono (mul_r (L := 2 * 1048576 + 1) ((R.out.1.step st.out.1).more (by omega)) (Rc.ra st.out.2.2.1.2) (by omega) (by omega)) ?_
      rintro e wx ⟨v9, rfl, hq, bx⟩
      obtain ⟨s2, A2, n2, c2, D2, m2, d2, rfl, tx⟩ := hq.parts
      clear hq
      try dsimp only
      have st2 := Sg.call (G := fun W => Rc W (rv s2 (.slice A2 n2 c2) (.slice D2 m2 d2)) (ra * (rb + rc)) (2 * (2 * 1048576 + 1))) st.out bx (Firm2.and Firm2.yes (Firm2.rc _ _ _)) tx
      have hSt := hide st2
      refine hK.out _ _ st2.1 (fun hHeld => ?_)
      clear hK K st2
      (try simp only [Act.put, List.setIfInBounds_toArray, List.set_cons_zero, List.set_cons_succ])
      exact Hs200.out _ _ ⟨s1, A1, n1, c1, D1, m1, d1, s2, A2, n2, c2, D2, m2, d2, rfl, hSt.out⟩
    refine AllReadyH.cons rfl (fun K hK => ?_) ?_
    · go_simp
      have st2 := Sg.make st.out (Firm2.and Firm2.yes (Firm2.rc _ _ _)) 0 _ rfl (by simp)
      refine hK.out _ _ st2.1 (fun hHeld => ?_)
      (try simp only [Act.put, List.setIfInBounds_toArray, List.set_cons_zero, List.set_cons_succ])
      exact Hs110.out _ _ ⟨s1, A1, n1, c1, D1, m1, d1, W.heap.size, rfl, st2⟩
    refine AllReadyH.cons rfl (fun K hK => ?_) ?_
    · go_simp
      have st2 := Sg.make st.out (Firm2.and Firm2.yes (Firm2.rc _ _ _)) 1 _ rfl (by simp)
      refine hK.out _ _ st2.1 (fun hHeld => ?_)
      (try simp only [Act.put, List.setIfInBounds_toArray, List.set_cons_zero, List.set_cons_succ])
      exact Hs101.out _ _ ⟨s1, A1, n1, c1, D1, m1, d1, W.heap.size, rfl, st2⟩
    exact AllReadyH.nil
  refine wpAnyH_with 7 #[true, true, true, false, false, true, true, false, true, true, false, false, true, true, false, false] (fun a W => ∃ (g0 : Nat) (g1 : Nat), a = ⟨#[rv sa (.slice Aa na ca) (.slice Da ma da), rv sb (.slice Ab nb cb) (.slice Db mb db), rv sc (.slice Ac nc cc) (.slice Dc mc dc), .pointer (some ⟨w.heap.size, 0, none⟩), .pointer (some ⟨w.heap.size + 1, 0, none⟩), .pointer (some ⟨w.heap.size + 1 + 1, 0, none⟩), .bool false, .pointer (some ⟨g0, 0, none⟩), .pointer (some ⟨g1, 0, none⟩), undef, undef, .bool true, .bool false, rv sa (.slice Aa na ca) (.slice Da ma da), rv sb (.slice Ab nb cb) (.slice Db mb db), rv sc (.slice Ac nc cc) (.slice Dc mc dc), undef, undef, rv sa (.slice Aa na ca) (.slice Da ma da), rv sb (.slice Ab nb cb) (.slice Db mb db), undef, rv sa (.slice Aa na ca) (.slice Da ma da), rv sc (.slice Ac nc cc) (.slice Dc mc dc), undef, undef, undef, undef, undef, undef, undef, undef, undef, undef, undef, undef, undef, undef, undef, undef, undef, undef, undef, undef, undef, undef, undef, undef, undef, undef, undef, undef, undef, undef, undef, undef, undef, undef, undef, undef, undef, undef, undef, undef, undef, undef, undef, undef, undef, undef, undef, undef, undef, undef, undef, undef, undef, undef, undef, undef, undef, undef, undef, undef, undef, undef, undef, undef, undef, undef], []⟩ ∧ Sg w1.drew.heap.size w1.drew W [rblk, rblk] [some g0, some g1] (fun W => True)) ?_ (fun Hs011 => ?_)
  · rintro a W ⟨g0, g1, rfl, st0⟩
    have hHeld := st0.1
    have st := hide st0
    clear st0
    refine wpAnyH_ready (rs := [3]) (by kernel_rfl) (by simp) ?_
    refine AllReadyH.cons rfl (fun K hK => ?_) ?_
    · go_simp
      go_at_call 41
      refine Calls.mono (add_r (L := 1048576) (R.out.2.1.step st.out.1) (R.out.2.2.step st.out.1) (by omega) (by omega)) ?_
      rintro e wx ⟨v9, rfl, hq, bx⟩
      obtain ⟨s1, A1, n1, c1, D1, m1, d1, rfl, tx⟩ := hq.parts
      clear hq
      try dsimp only
      have st2 := Sg.call (G := fun W => Rc W (rv s1 (.slice A1 n1 c1) (.slice D1 m1 d1)) (rb + rc) (2 * 1048576 + 1)) st.out bx Firm2.yes tx
      have hSt := hide st2
      refine hK.out _ _ st2.1 (fun hHeld => ?_)
      clear hK K st2
      (try simp only [Act.put, List.setIfInBounds_toArray, List.set_cons_zero, List.set_cons_succ])
      exact Hs111.out _ _ ⟨s1, A1, n1, c1, D1, m1, d1, g0, g1, rfl, hSt.out⟩
    exact AllReadyH.nil
  refine wpAnyH_with 8 #[true, true, true, false, false, true, true, false, true, true, false, false, true, false, false, false] (fun a W => ∃ (g0 : Nat), a = ⟨#[rv sa (.slice Aa na ca) (.slice Da ma da), rv sb (.slice Ab nb cb) (.slice Db mb db), rv sc (.slice Ac nc cc) (.slice Dc mc dc), .pointer (some ⟨w.heap.size, 0, none⟩), .pointer (some ⟨w.heap.size + 1, 0, none⟩), .pointer (some ⟨w.heap.size + 1 + 1, 0, none⟩), .bool false, .pointer (some ⟨g0, 0, none⟩), undef, undef, undef, .bool true, .bool false, rv sa (.slice Aa na ca) (.slice Da ma da), rv sb (.slice Ab nb cb) (.slice Db mb db), rv sc (.slice Ac nc cc) (.slice Dc mc dc), undef, undef, rv sa (.slice Aa na ca) (.slice Da ma da), rv sb (.slice Ab nb cb) (.slice Db mb db), undef, rv sa (.slice Aa na ca) (.slice Da ma da), rv sc (.slice Ac nc cc) (.slice Dc mc dc), undef, undef, undef, undef, undef, undef, undef, undef, undef, undef, undef, undef, undef, undef, undef, undef, undef, undef, undef, undef, undef, undef, undef, undef, undef, undef, undef, undef, undef, undef, undef, undef, undef, undef, undef, undef, undef, undef, undef, undef, undef, undef, undef, undef, undef, undef, undef, undef, undef, undef, undef, undef, undef, undef, undef, undef, undef, undef, undef, undef, undef, undef, undef, undef, undef, undef], []⟩ ∧ Sg w1.drew.heap.size w1.drew W [rblk, rblk] [some g0, none] (fun W => True)) ?_ (fun Hs010 => ?_)
  · rintro a W ⟨g0, rfl, st0⟩
    have hHeld := st0.1
    have st := hide st0
    clear st0
    refine wpAnyH_ready (rs := [3, 13]) (by kernel_rfl) (by simp) ?_
    refine AllReadyH.cons rfl (fun K hK => ?_) ?_
    · go_simp
      go_at_call 41
      refine Calls.mono (add_r (L := 1048576) (R.out.2.1.step st.out.1) (R.out.2.2.step st.out.1) (by omega) (by omega)) ?_
      rintro e wx ⟨v9, rfl, hq, bx⟩
      obtain ⟨s1, A1, n1, c1, D1, m1, d1, rfl, tx⟩ := hq.parts
      clear hq
      try dsimp only
      have st2 := Sg.call (G := fun W => Rc W (rv s1 (.slice A1 n1 c1) (.slice D1 m1 d1)) (rb + rc) (2 * 1048576 + 1)) st.out bx Firm2.yes tx
      have hSt := hide st2
      refine hK.out _ _ st2.1 (fun hHeld => ?_)
      clear hK K st2
      (try simp only [Act.put, List.setIfInBounds_toArray, List.set_cons_zero, List.set_cons_succ])
      exact Hs110.out _ _ ⟨s1, A1, n1, c1, D1, m1, d1, g0, rfl, hSt.out⟩
    refine AllReadyH.cons rfl (fun K hK => ?_) ?_
    · go_simp
      have st2 := Sg.make st.out Firm2.yes 1 _ rfl (by simp)
      refine hK.out _ _ st2.1 (fun hHeld => ?_)
      (try simp only [Act.put, List.setIfInBounds_toArray, List.set_cons_zero, List.set_cons_succ])
      exact Hs011.out _ _ ⟨g0, W.heap.size, rfl, st2⟩
    exact AllReadyH.nil
  refine wpAnyH_with 8 #[true, true, true, false, false, true, true, false, true, true, false, false, false, true, false, false] (fun a W => ∃ (g1 : Nat), a = ⟨#[rv sa (.slice Aa na ca) (.slice Da ma da), rv sb (.slice Ab nb cb) (.slice Db mb db), rv sc (.slice Ac nc cc) (.slice Dc mc dc), .pointer (some ⟨w.heap.size, 0, none⟩), .pointer (some ⟨w.heap.size + 1, 0, none⟩), .pointer (some ⟨w.heap.size + 1 + 1, 0, none⟩), .bool false, undef, .pointer (some ⟨g1, 0, none⟩), undef, undef, .bool true, .bool false, rv sa (.slice Aa na ca) (.slice Da ma da), rv sb (.slice Ab nb cb) (.slice Db mb db), rv sc (.slice Ac nc cc) (.slice Dc mc dc), undef, undef, rv sa (.slice Aa na ca) (.slice Da ma da), rv sb (.slice Ab nb cb) (.slice Db mb db), undef, rv sa (.slice Aa na ca) (.slice Da ma da), rv sc (.slice Ac nc cc) (.slice Dc mc dc), undef, undef, undef, undef, undef, undef, undef, undef, undef, undef, undef, undef, undef, undef, undef, undef, undef, undef, undef, undef, undef, undef, undef, undef, undef, undef, undef, undef, undef, undef, undef, undef, undef, undef, undef, undef, undef, undef, undef, undef, undef, undef, undef, undef, undef, undef, undef, undef, undef, undef, undef, undef, undef, undef, undef, undef, undef, undef, undef, undef, undef, undef, undef, undef, undef, undef], []⟩ ∧ Sg w1.drew.heap.size w1.drew W [rblk, rblk] [none, some g1] (fun W => True)) ?_ (fun Hs001 => ?_)
  · rintro a W ⟨g1, rfl, st0⟩
    have hHeld := st0.1
    have st := hide st0
    clear st0
    refine wpAnyH_ready (rs := [3, 12]) (by kernel_rfl) (by simp) ?_
    refine AllReadyH.cons rfl (fun K hK => ?_) ?_
    · go_simp
      go_at_call 41
      refine Calls.mono (add_r (L := 1048576) (R.out.2.1.step st.out.1) (R.out.2.2.step st.out.1) (by omega) (by omega)) ?_
      rintro e wx ⟨v9, rfl, hq, bx⟩
      obtain ⟨s1, A1, n1, c1, D1, m1, d1, rfl, tx⟩ := hq.parts
      clear hq
      try dsimp only
      have st2 := Sg.call (G := fun W => Rc W (rv s1 (.slice A1 n1 c1) (.slice D1 m1 d1)) (rb + rc) (2 * 1048576 + 1)) st.out bx Firm2.yes tx
      have hSt := hide st2
      refine hK.out _ _ st2.1 (fun hHeld => ?_)
      clear hK K st2
      (try simp only [Act.put, List.setIfInBounds_toArray, List.set_cons_zero, List.set_cons_succ])
      exact Hs101.out _ _ ⟨s1, A1, n1, c1, D1, m1, d1, g1, rfl, hSt.out⟩
    refine AllReadyH.cons rfl (fun K hK => ?_) ?_
    · go_simp
      have st2 := Sg.make st.out Firm2.yes 0 _ rfl (by simp)
      refine hK.out _ _ st2.1 (fun hHeld => ?_)
      (try simp only [Act.put, List.setIfInBounds_toArray, List.set_cons_zero, List.set_cons_succ])
      exact Hs011.out _ _ ⟨W.heap.size, g1, rfl, st2⟩
    exact AllReadyH.nil
  refine wpAnyH_take (i := 0) (v := ?_) rfl (by kernel_rfl) (by kernel_rfl) (by kernel_rfl) (fun _ _ _ h => h) (Or.inl ⟨?_, ?_⟩) (by assumption) ?_
  rotate_left
  · rfl
  · (intro w hSw; have e0 := cell_keep P.out.1.1 hSw; have e1 := cell_keep P.out.1.2.1 hSw; have e2 := cell_keep P.out.1.2.2 hSw; go_simp; try with_reducible rfl)
  (try simp only [Act.put, List.setIfInBounds_toArray, List.set_cons_zero, List.set_cons_succ])
  refine wpAnyH_take (i := 1) (v := ?_) rfl (by kernel_rfl) (by kernel_rfl) (by kernel_rfl) (fun _ _ _ h => h) (Or.inl ⟨?_, ?_⟩) (by assumption) ?_
  rotate_left
  · rfl
  · (intro w hSw; have e0 := cell_keep P.out.2.1.1 hSw; have e1 := cell_keep P.out.2.1.2.1 hSw; have e2 := cell_keep P.out.2.1.2.2 hSw; go_simp; try with_reducible rfl)
  (try simp only [Act.put, List.setIfInBounds_toArray, List.set_cons_zero, List.set_cons_succ])
  refine wpAnyH_take (i := 2) (v := ?_) rfl (by kernel_rfl) (by kernel_rfl) (by kernel_rfl) (fun _ _ _ h => h) (Or.inl ⟨?_, ?_⟩) (by assumption) ?_
  rotate_left
  · rfl
  · (intro w hSw; have e0 := cell_keep P.out.2.2.1 hSw; have e1 := cell_keep P.out.2.2.2.1 hSw; have e2 := cell_keep P.out.2.2.2.2 hSw; go_simp; try with_reducible rfl)
  (try simp only [Act.put, List.setIfInBounds_toArray, List.set_cons_zero, List.set_cons_succ])
  refine wpAnyH_take (i := 5) (v := ?_) rfl (by kernel_rfl) (by kernel_rfl) (by kernel_rfl) (fun _ _ _ h => h) (Or.inl ⟨?_, ?_⟩) (by assumption) ?_
  rotate_left
  · rfl
  · (intro w hSw; have e0 := cell_keep P.out.1.1 hSw; have e1 := cell_keep P.out.1.2.1 hSw; have e2 := cell_keep P.out.1.2.2 hSw; go_simp; try with_reducible rfl)
  (try simp only [Act.put, List.setIfInBounds_toArray, List.set_cons_zero, List.set_cons_succ])
  refine wpAnyH_take (i := 6) (v := ?_) rfl (by kernel_rfl) (by kernel_rfl) (by kernel_rfl) (fun _ _ _ h => h) (Or.inl ⟨?_, ?_⟩) (by assumption) ?_
  rotate_left
  · rfl
  · (intro w hSw; have e0 := cell_keep P.out.2.1.1 hSw; have e1 := cell_keep P.out.2.1.2.1 hSw; have e2 := cell_keep P.out.2.1.2.2 hSw; go_simp; try with_reducible rfl)
  (try simp only [Act.put, List.setIfInBounds_toArray, List.set_cons_zero, List.set_cons_succ])
  refine wpAnyH_take (i := 8) (v := ?_) rfl (by kernel_rfl) (by kernel_rfl) (by kernel_rfl) (fun _ _ _ h => h) (Or.inl ⟨?_, ?_⟩) (by assumption) ?_
  rotate_left
  · rfl
  · (intro w hSw; have e0 := cell_keep P.out.1.1 hSw; have e1 := cell_keep P.out.1.2.1 hSw; have e2 := cell_keep P.out.1.2.2 hSw; go_simp; try with_reducible rfl)
  (try simp only [Act.put, List.setIfInBounds_toArray, List.set_cons_zero, List.set_cons_succ])
  refine wpAnyH_take (i := 9) (v := ?_) rfl (by kernel_rfl) (by kernel_rfl) (by kernel_rfl) (fun _ _ _ h => h) (Or.inl ⟨?_, ?_⟩) (by assumption) ?_
  rotate_left
  · rfl
  · (intro w hSw; have e0 := cell_keep P.out.2.2.1 hSw; have e1 := cell_keep P.out.2.2.2.1 hSw; have e2 := cell_keep P.out.2.2.2.2 hSw; go_simp; try with_reducible rfl)
  (try simp only [Act.put, List.setIfInBounds_toArray, List.set_cons_zero, List.set_cons_succ])
  refine wpAnyH_with 9 #[true, true, true, false, false, true, true, false, true, true, false, false, false, false, false, false] (fun a W => a = ⟨#[rv sa (.slice Aa na ca) (.slice Da ma da), rv sb (.slice Ab nb cb) (.slice Db mb db), rv sc (.slice Ac nc cc) (.slice Dc mc dc), .pointer (some ⟨w.heap.size, 0, none⟩), .pointer (some ⟨w.heap.size + 1, 0, none⟩), .pointer (some ⟨w.heap.size + 1 + 1, 0, none⟩), .bool false, undef, undef, undef, undef, .bool true, .bool false, rv sa (.slice Aa na ca) (.slice Da ma da), rv sb (.slice Ab nb cb) (.slice Db mb db), rv sc (.slice Ac nc cc) (.slice Dc mc dc), undef, undef, rv sa (.slice Aa na ca) (.slice Da ma da), rv sb (.slice Ab nb cb) (.slice Db mb db), undef, rv sa (.slice Aa na ca) (.slice Da ma da), rv sc (.slice Ac nc cc) (.slice Dc mc dc), undef, undef, undef, undef, undef, undef, undef, undef, undef, undef, undef, undef, undef, undef, undef, undef, undef, undef, undef, undef, undef, undef, undef, undef, undef, undef, undef, undef, undef, undef, undef, undef, undef, undef, undef, undef, undef, undef, undef, undef, undef, undef, undef, undef, undef, undef, undef, undef, undef, undef, undef, undef, undef, undef, undef, undef, undef, undef, undef, undef, undef, undef, undef, undef, undef, undef], []⟩ ∧ Sg w1.drew.heap.size w1.drew W [rblk, rblk] [none, none] (fun W => True)) ?_ (fun Hs => Hs.out _ _ ⟨rfl, Sg.start _ _ 2⟩)
  rintro a W ⟨rfl, st0⟩
  have hHeld := st0.1
  have st := hide st0
  clear st0
  refine wpAnyH_ready (rs := [3, 12, 13]) (by kernel_rfl) (by simp) ?_
  refine AllReadyH.cons rfl (fun K hK => ?_) ?_
  · go_simp
    go_at_call 41
    refine Calls.mono (add_r (L := 1048576) (R.out.2.1.step st.out.1) (R.out.2.2.step st.out.1) (by omega) (by omega)) ?_
    rintro e wx ⟨v9, rfl, hq, bx⟩
    obtain ⟨s1, A1, n1, c1, D1, m1, d1, rfl, tx⟩ := hq.parts
    clear hq
    try dsimp only
    have st2 := Sg.call (G := fun W => Rc W (rv s1 (.slice A1 n1 c1) (.slice D1 m1 d1)) (rb + rc) (2 * 1048576 + 1)) st.out bx Firm2.yes tx
    have hSt := hide st2
    refine hK.out _ _ st2.1 (fun hHeld => ?_)
    clear hK K st2
    (try simp only [Act.put, List.setIfInBounds_toArray, List.set_cons_zero, List.set_cons_succ])
    exact Hs100.out _ _ ⟨s1, A1, n1, c1, D1, m1, d1, rfl, hSt.out⟩
  refine AllReadyH.cons rfl (fun K hK => ?_) ?_
  · go_simp
    have st2 := Sg.make st.out Firm2.yes 0 _ rfl (by simp)
    refine hK.out _ _ st2.1 (fun hHeld => ?_)
    (try simp only [Act.put, List.setIfInBounds_toArray, List.set_cons_zero, List.set_cons_succ])
    exact Hs010.out _ _ ⟨W.heap.size, rfl, st2⟩
  refine AllReadyH.cons rfl (fun K hK => ?_) ?_
  · go_simp
    have st2 := Sg.make st.out Firm2.yes 1 _ rfl (by simp)
    refine hK.out _ _ st2.1 (fun hHeld => ?_)
    (try simp only [Act.put, List.setIfInBounds_toArray, List.set_cons_zero, List.set_cons_succ])
    exact Hs001.out _ _ ⟨W.heap.size, rfl, st2⟩
  exact AllReadyH.nil
end Go.Proofs.Ytpcchagnbkohnaa
