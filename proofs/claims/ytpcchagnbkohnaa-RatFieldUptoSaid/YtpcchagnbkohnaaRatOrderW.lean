/-
  The walk of RatOrder: true.
-/
import Derived.Test.YtpcchagnbkohnaaRatM
import Derived.Test.YtpcchagnbkohnaaLat2


namespace Go.Proofs.Ytpcchagnbkohnaa
open Go.RowKit Go.Proofs.Ytpcchagnbkohnaa.Num
set_option linter.unusedVariables false
set_option linter.unusedSimpArgs false
set_option maxRecDepth 100000

theorem f_world3r (w : World) (s t r : Bool) (A D F H E K : Option Addr) (n c m d k f l h i j a b : Nat) :
    Below w.heap.size w (((w.alloc (rbox s (.slice A n c) (.slice D m d))).alloc (rbox t (.slice F k f) (.slice H l h))).alloc (rbox r (.slice E i j) (.slice K a b))) ∧ Fx (((w.alloc (rbox s (.slice A n c) (.slice D m d))).alloc (rbox t (.slice F k f) (.slice H l h))).alloc (rbox r (.slice E i j) (.slice K a b))) w.heap.size s A n c D m d ∧ Fx (((w.alloc (rbox s (.slice A n c) (.slice D m d))).alloc (rbox t (.slice F k f) (.slice H l h))).alloc (rbox r (.slice E i j) (.slice K a b))) (w.heap.size + 1) t F k f H l h ∧ Fx (((w.alloc (rbox s (.slice A n c) (.slice D m d))).alloc (rbox t (.slice F k f) (.slice H l h))).alloc (rbox r (.slice E i j) (.slice K a b))) (w.heap.size + 1 + 1) r E i j K a b := by
  refine ⟨(((Below.refl _ _).alloc (Nat.le_refl _) _).alloc (by simp) _).alloc (by simp; omega) _, ⟨?_, ?_, ?_⟩, ⟨?_, ?_, ?_⟩, ?_, ?_, ?_⟩ <;> go_simp

set_option maxHeartbeats 16000000 in
theorem ratorder_true (w : World) (sa : Bool) (ua ta : Value) (sb : Bool) (ub tb : Value) (sc : Bool) (uc tc : Value) (xa ya xb yb xc yc : Nat) (hua : Nw w ua xa 1048576) (hva : Nw w ta ya 1048576) (hub : Nw w ub xb 1048576) (hvb : Nw w tb yb 1048576) (huc : Nw w uc xc 1048576) (hvc : Nw w tc yc 1048576) :
    Calls Try.prog 8 #[rv sa ua ta, rv sb ub tb, rv sc uc tc] w fun e w' => e = .returned (.bool true) ∧ Below w.heap.size w w' := by
  obtain ⟨Aa, na, ca, rfl⟩ := hua.slice
  obtain ⟨Da, ma, da, rfl⟩ := hva.slice
  obtain ⟨ra, hra⟩ : ∃ r, mkRat (zi sa xa) (dn ya) = r := ⟨_, rfl⟩
  have ha : Ra w (rv sa (.slice Aa na ca) (.slice Da ma da)) ra 1048576 := ⟨sa, _, _, xa, ya, rfl, hua, hva, hra.symm⟩
  obtain ⟨Ab, nb, cb, rfl⟩ := hub.slice
  obtain ⟨Db, mb, db, rfl⟩ := hvb.slice
  obtain ⟨rb, hrb⟩ : ∃ r, mkRat (zi sb xb) (dn yb) = r := ⟨_, rfl⟩
  have hb : Ra w (rv sb (.slice Ab nb cb) (.slice Db mb db)) rb 1048576 := ⟨sb, _, _, xb, yb, rfl, hub, hvb, hrb.symm⟩
  obtain ⟨Ac, nc, cc, rfl⟩ := huc.slice
  obtain ⟨Dc, mc, dc, rfl⟩ := hvc.slice
  obtain ⟨rc, hrc⟩ : ∃ r, mkRat (zi sc xc) (dn yc) = r := ⟨_, rfl⟩
  have hc : Ra w (rv sc (.slice Ac nc cc) (.slice Dc mc dc)) rc 1048576 := ⟨sc, _, _, xc, yc, rfl, huc, hvc, hrc.symm⟩
  obtain ⟨b1, y1, y2, y3⟩ := f_world3r w sa sb sc Aa Da Ab Db Ac Dc na ca ma da nb cb mb db nc cc mc dc
  have R := hide (And.intro ((ha.step b1).more (show 1048576 ≤ (2 * (2 * 1048576 + 1)) by omega)) (And.intro ((hb.step b1).more (show 1048576 ≤ (2 * (2 * 1048576 + 1)) by omega)) ((hc.step b1).more (show 1048576 ≤ (2 * (2 * 1048576 + 1)) by omega))))
  have B := hide b1
  have P := hide (And.intro y1 (And.intro y2 y3))
  have SA := hide (And.intro (ha.step b1) (hb.step b1))
  clear hua hva hub hvb huc hvc hra hrb hrc ha hb hc b1 y1 y2 y3
  obtain ⟨o1, ho1⟩ : ∃ o, Hid (cmpR ra rb = o) := ⟨_, hide rfl⟩
  obtain ⟨o2, ho2⟩ : ∃ o, Hid (cmpR rb rc = o) := ⟨_, hide rfl⟩
  obtain ⟨o3, ho3⟩ : ∃ o, Hid (cmpR ra rc = o) := ⟨_, hide rfl⟩
  have hturn : Hid (cmpR rb ra = -o1) := hide (by rw [← ho1.out]; exact cmpR_turn ra rb)
  have hm1 : Hid (cmpR ra (((1 : Int) : Rat) / ((2 : Int) : Rat) * (ra + rb)) = o1) := hide (by rw [← ho1.out]; exact mean_lo ra rb)
  have hm2 : Hid (cmpR (((1 : Int) : Rat) / ((2 : Int) : Rat) * (ra + rb)) rb = o1) := hide (by rw [← ho1.out]; exact mean_hi ra rb)
  have hw1 : IntKind.i64.wrap (- -o1) = o1 := by have := cmpR_range ra rb; rw [ho1.out] at this; rw [IntWalk.i64_in _ (by omega)]; omega
  have hw2 : IntKind.i64.wrap o1 = o1 := by have := cmpR_range ra rb; rw [ho1.out] at this; rw [IntWalk.i64_in _ (by omega)]
  have hw3 : (o1 == o1) = true := by simp
  have hcases : (decide (o1 ≤ 0) = false) ∨ (decide (o1 ≤ 0) = true ∧ decide (o2 ≤ 0) = false) ∨ (decide (o1 ≤ 0) = true ∧ decide (o2 ≤ 0) = true ∧ decide (0 < o3) = false) := by
    by_cases h1 : o1 ≤ 0
    · by_cases h2 : o2 ≤ 0
      · refine .inr (.inr ⟨decide_eq_true h1, decide_eq_true h2, decide_eq_false ?_⟩)
        have a1 := cmpR_le.1 (show cmpR ra rb ≤ 0 by rw [ho1.out]; exact h1)
        have a2 := cmpR_le.1 (show cmpR rb rc ≤ 0 by rw [ho2.out]; exact h2)
        have a3 := cmpR_le.2 (show ra ≤ rc by grind)
        rw [ho3.out] at a3
        omega
      · exact .inr (.inl ⟨decide_eq_true h1, decide_eq_false h2⟩)
    · exact .inl (decide_eq_false h1)
  rcases hcases with t1 | ⟨t1, t2⟩ | ⟨t1, t2, t3⟩
  · go_enter Try.func8, Try.ntmps8
    go_wp2_with fail
    refine (rspeaks_true _).mono ?_
    rintro e w1 ⟨rfl, bx⟩
    replace P := hide ((And.intro (P.out.1.step bx) (And.intro (P.out.2.1.step bx) (P.out.2.2.step bx))))
    replace R := hide ((And.intro (R.out.1.step bx) (And.intro (R.out.2.1.step bx) (R.out.2.2.step bx))))
    replace SA := hide (And.intro (SA.out.1.step bx) (SA.out.2.step bx))
    replace B := hide (Below.step B.out B.out.size bx)
    clear bx
    obtain ⟨⟨p0, p1, p2⟩, ⟨q0, q1, q2⟩, r0, r1, r2⟩ := P.out
    go_wp2_with fail
    refine (cmp_r (r1 := ra) (r2 := rb) (L := (2 * (2 * 1048576 + 1))) R.out.1 R.out.2.1 (by omega) (by omega)).mono ?_
    rw [ho1.out]
    rintro e wq ⟨rfl, bx⟩
    replace P := hide ((And.intro (P.out.1.step bx) (And.intro (P.out.2.1.step bx) (P.out.2.2.step bx))))
    replace R := hide ((And.intro (R.out.1.step bx) (And.intro (R.out.2.1.step bx) (R.out.2.2.step bx))))
    replace SA := hide (And.intro (SA.out.1.step bx) (SA.out.2.step bx))
    replace B := hide (Below.step B.out B.out.size bx)
    clear bx
    obtain ⟨⟨p0, p1, p2⟩, ⟨q0, q1, q2⟩, r0, r1, r2⟩ := P.out
    go_wp2_with fail
    clear p0 p1 p2 q0 q1 q2 r0 r1 r2
    refine (of_r _ 1 2 (by omega) (by omega) (by omega) (by omega) (by omega)).mono ?_
    rintro e w5 ⟨v5, rfl, h5, bx⟩
    obtain ⟨s4, A4, n4, c4, D4, m4, d4, rfl, h5⟩ := h5.parts
    replace P := hide ((And.intro (P.out.1.step bx) (And.intro (P.out.2.1.step bx) (P.out.2.2.step bx))))
    replace R := hide ((And.intro (R.out.1.step bx) (And.intro (R.out.2.1.step bx) (R.out.2.2.step bx))))
    replace SA := hide (And.intro (SA.out.1.step bx) (SA.out.2.step bx))
    replace B := hide (Below.step B.out B.out.size bx)
    have U := hide h5
    clear h5 bx
    go_wp2_with fail
    obtain ⟨bx, y⟩ := fbox1 w5 s4 A4 n4 c4 D4 m4 d4
    generalize (w5.alloc (.cells #[.bool s4, .slice A4 n4 c4, .slice D4 m4 d4] 28)) = w6 at *
    have by_ := Below.step1 bx (Below.drew (Below.refl w6.heap.size w6))
    have HF := hide (Rc.ra (U.out.step by_))
    have P := hide (And.intro (P.out.1.step by_) (And.intro (P.out.2.1.step by_) (And.intro (P.out.2.2.step by_) (y.step (Below.drew (Below.refl w6.heap.size w6))))))
    have R := hide ((And.intro (R.out.1.step by_) (And.intro (R.out.2.1.step by_) (R.out.2.2.step by_))))
    have SA := hide (And.intro (SA.out.1.step by_) (SA.out.2.step by_))
    have B := hide (Below.step B.out B.out.size by_)
    generalize w5.heap.size = g at *
    clear bx by_ y U
    refine wp_region_held_drew (S := fun W => Below w6.drew.heap.size w6.drew W) (by kernel_rfl) (Below.refl _ _) (fun hHeld => ?_)
    refine wpAnyH_with 1 #[true, true, true, true, true, true, false] (fun a W => ∃ (s5 : Bool) (A5 : Option Addr) (n5 c5 : Nat) (D5 : Option Addr) (m5 d5 : Nat) (s6 : Bool) (A6 : Option Addr) (n6 c6 : Nat) (D6 : Option Addr) (m6 d6 : Nat) (g0 : Nat), a = ⟨#[rv sa (.slice Aa na ca) (.slice Da ma da), rv sb (.slice Ab nb cb) (.slice Db mb db), rv sc (.slice Ac nc cc) (.slice Dc mc dc), .pointer (some ⟨w.heap.size, 0, none⟩), .pointer (some ⟨w.heap.size + 1, 0, none⟩), .pointer (some ⟨w.heap.size + 1 + 1, 0, none⟩), .bool false, .pointer (some ⟨g, 0, none⟩), .int .i64 0, .pointer (some ⟨g0, 0, none⟩), .bool true, .bool false, rv sa (.slice Aa na ca) (.slice Da ma da), rv sb (.slice Ab nb cb) (.slice Db mb db), .int .i64 o1, .bool false, .bool false, undef, undef, undef, undef, .bool false, .bool false, undef, undef, undef, undef, .bool false, .tuple #[rv s4 (.slice A4 n4 c4) (.slice D4 m4 d4), .int .i64 0], .tuple #[rv s4 (.slice A4 n4 c4) (.slice D4 m4 d4), .int .i64 0], rv s4 (.slice A4 n4 c4) (.slice D4 m4 d4), .int .i64 0, rv s4 (.slice A4 n4 c4) (.slice D4 m4 d4), rv sa (.slice Aa na ca) (.slice Da ma da), rv sb (.slice Ab nb cb) (.slice Db mb db), rv s5 (.slice A5 n5 c5) (.slice D5 m5 d5), rv s6 (.slice A6 n6 c6) (.slice D6 m6 d6), undef, undef, undef, undef, undef, undef, undef, undef, undef, undef, undef, undef, undef, undef, undef, undef, undef, undef, undef, undef, undef, undef, undef, undef, undef, undef], []⟩ ∧ Sg w6.drew.heap.size w6.drew W [rblk] [some g0] (fun W => ((True ∧ Rc W (rv s5 (.slice A5 n5 c5) (.slice D5 m5 d5)) (ra + rb) (2 * 1048576 + 1)) ∧ Rc W (rv s6 (.slice A6 n6 c6) (.slice D6 m6 d6)) (((1 : Int) : Rat) / ((2 : Int) : Rat) * (ra + rb)) (2 * (2 * 1048576 + 1))))) ?_ (fun Hs21 => ?_)
    · rintro a W ⟨s5, A5, n5, c5, D5, m5, d5, s6, A6, n6, c6, D6, m6, d6, g0, rfl, st0⟩
      have hHeld := st0.1
      have st := hide st0
      clear st0
      obtain ⟨k0, f0⟩ := Sg.cells st.out 0 g0 #[.bool false, .slice none 0 0, .slice none 0 0] 28 rfl rfl 0
      obtain ⟨k1, f1⟩ := Sg.cells st.out 0 g0 #[.bool false, .slice none 0 0, .slice none 0 0] 28 rfl rfl 1
      obtain ⟨k2, f2⟩ := Sg.cells st.out 0 g0 #[.bool false, .slice none 0 0, .slice none 0 0] 28 rfl rfl 2
      simp only [List.getElem?_toArray, List.getElem?_cons_zero, List.getElem?_cons_succ] at k0
      simp only [List.getElem?_toArray, List.getElem?_cons_zero, List.getElem?_cons_succ] at k1
      simp only [List.getElem?_toArray, List.getElem?_cons_zero, List.getElem?_cons_succ] at k2
      have st9 := st.out
      have st9 := Sg.put st9 (Firm2.and (Firm2.and Firm2.yes (Firm2.rc _ _ _)) (Firm2.rc _ _ _)) 0 g0 0 _ 28 (.bool s6) rfl rfl rfl
      have st9 := Sg.put st9 (Firm2.and (Firm2.and Firm2.yes (Firm2.rc _ _ _)) (Firm2.rc _ _ _)) 0 g0 1 _ 28 (.slice A6 n6 c6) rfl rfl rfl
      have st9 := Sg.put st9 (Firm2.and (Firm2.and Firm2.yes (Firm2.rc _ _ _)) (Firm2.rc _ _ _)) 0 g0 2 _ 28 (.slice D6 m6 d6) rfl rfl rfl
      have st8 := hide st9
      clear st9
      refine wpAnyH_ready (rs := [6]) (by kernel_rfl) (by simp) ?_
      refine AllReadyH.cons rfl (fun K hK => ?_) ?_
      rotate_left
      · exact AllReadyH.nil
      go_simp
      refine hK.out _ _ st8.out.1 (fun hHeld => ?_)
      clear hK K k0 f0 k1 f1 k2 f2 st
      (try simp only [Act.put, List.setIfInBounds_toArray, List.set_cons_zero, List.set_cons_succ])
      generalize (((W.setCell ⟨g0, 0, none⟩ _).setCell ⟨g0, 1, none⟩ _).setCell ⟨g0, 2, none⟩ _) = W5 at *
      have st := st8
      clear st8
      refine wpAnyH_done (by kernel_rfl) ?_ _
      clear hHeld
      have s9 := st.out
      have R : Hid (Ra W5 (rv sa (.slice Aa na ca) (.slice Da ma da)) ra (2 * (2 * 1048576 + 1)) ∧ Ra W5 (rv sb (.slice Ab nb cb) (.slice Db mb db)) rb (2 * (2 * 1048576 + 1)) ∧ Ra W5 (rv sc (.slice Ac nc cc) (.slice Dc mc dc)) rc (2 * (2 * 1048576 + 1)) ∧ Ra W5 (rv s6 (.slice A6 n6 c6) (.slice D6 m6 d6)) (((1 : Int) : Rat) / ((2 : Int) : Rat) * (ra + rb)) (2 * (2 * 1048576 + 1))) := hide ⟨R.out.1.step s9.1, R.out.2.1.step s9.1, R.out.2.2.step s9.1, Rc.ra s9.2.2.1.2⟩
      have P := hide (And.intro (P.out.1.step s9.1) (And.intro (P.out.2.1.step s9.1) (And.intro (P.out.2.2.1.step s9.1) (show Fx W5 g0 s6 A6 n6 c6 D6 m6 d6 from ⟨(Sg.cells s9 0 g0 _ _ rfl rfl 0).1, (Sg.cells s9 0 g0 _ _ rfl rfl 1).1, (Sg.cells s9 0 g0 _ _ rfl rfl 2).1⟩))))
      have B := hide (Below.step B.out B.out.size s9.1)
      clear s9 st SA HF
      generalize W5 = w2 at *
      go_wp2_with fail
      have bx := Below.drew (Below.refl w2.heap.size w2)
      replace P := hide ((And.intro (P.out.1.step bx) (And.intro (P.out.2.1.step bx) (And.intro (P.out.2.2.1.step bx) (P.out.2.2.2.step bx)))))
      replace R := hide ((And.intro (R.out.1.step bx) (And.intro (R.out.2.1.step bx) (And.intro (R.out.2.2.1.step bx) (R.out.2.2.2.step bx)))))
      replace B := hide (Below.step B.out B.out.size bx)
      clear bx
      go_region_held3 (fun W => (W.cell? ⟨w.heap.size, 0, none⟩ = some (.bool sa) ∧ W.cell? ⟨w.heap.size, 1, none⟩ = some (.slice Aa na ca) ∧ W.cell? ⟨w.heap.size, 2, none⟩ = some (.slice Da ma da)) ∧ (W.cell? ⟨w.heap.size + 1, 0, none⟩ = some (.bool sb) ∧ W.cell? ⟨w.heap.size + 1, 1, none⟩ = some (.slice Ab nb cb) ∧ W.cell? ⟨w.heap.size + 1, 2, none⟩ = some (.slice Db mb db)) ∧ (W.cell? ⟨w.heap.size + 1 + 1, 0, none⟩ = some (.bool sc) ∧ W.cell? ⟨w.heap.size + 1 + 1, 1, none⟩ = some (.slice Ac nc cc) ∧ W.cell? ⟨w.heap.size + 1 + 1, 2, none⟩ = some (.slice Dc mc dc)) ∧ (W.cell? ⟨g0, 0, none⟩ = some (.bool s6) ∧ W.cell? ⟨g0, 1, none⟩ = some (.slice A6 n6 c6) ∧ W.cell? ⟨g0, 2, none⟩ = some (.slice D6 m6 d6)))
        (exact P.out)
        (first
          | (go_at_call 42; refine Calls.mono (cmp_r (r1 := ra) (r2 := rb) (L := (2 * (2 * 1048576 + 1))) ?_ ?_ (by omega) (by omega)) ?_; (focus ((with_reducible exact R.out.1); done)); (focus ((with_reducible exact R.out.2.1); done)); rw [ho1.out]; rintro e wx ⟨rfl, bx⟩; replace P := hide ((And.intro (P.out.1.step bx) (And.intro (P.out.2.1.step bx) (And.intro (P.out.2.2.1.step bx) (P.out.2.2.2.step bx))))); replace R := hide ((And.intro (R.out.1.step bx) (And.intro (R.out.2.1.step bx) (And.intro (R.out.2.2.1.step bx) (R.out.2.2.2.step bx))))); replace B := hide (Below.step B.out B.out.size bx))
          | (go_at_call 42; refine Calls.mono (cmp_r (r1 := rb) (r2 := ra) (L := (2 * (2 * 1048576 + 1))) ?_ ?_ (by omega) (by omega)) ?_; (focus ((with_reducible exact R.out.2.1); done)); (focus ((with_reducible exact R.out.1); done)); rw [hturn.out]; rintro e wx ⟨rfl, bx⟩; replace P := hide ((And.intro (P.out.1.step bx) (And.intro (P.out.2.1.step bx) (And.intro (P.out.2.2.1.step bx) (P.out.2.2.2.step bx))))); replace R := hide ((And.intro (R.out.1.step bx) (And.intro (R.out.2.1.step bx) (And.intro (R.out.2.2.1.step bx) (R.out.2.2.2.step bx))))); replace B := hide (Below.step B.out B.out.size bx))
          | (go_at_call 42; refine Calls.mono (cmp_r (r1 := ra) (r2 := ((1 : Int) : Rat) / ((2 : Int) : Rat) * (ra + rb)) (L := (2 * (2 * 1048576 + 1))) ?_ ?_ (by omega) (by omega)) ?_; (focus ((with_reducible exact R.out.1); done)); (focus ((with_reducible exact R.out.2.2.2); done)); rw [hm1.out]; rintro e wx ⟨rfl, bx⟩; replace P := hide ((And.intro (P.out.1.step bx) (And.intro (P.out.2.1.step bx) (And.intro (P.out.2.2.1.step bx) (P.out.2.2.2.step bx))))); replace R := hide ((And.intro (R.out.1.step bx) (And.intro (R.out.2.1.step bx) (And.intro (R.out.2.2.1.step bx) (R.out.2.2.2.step bx))))); replace B := hide (Below.step B.out B.out.size bx))
          | (go_at_call 42; refine Calls.mono (cmp_r (r1 := ((1 : Int) : Rat) / ((2 : Int) : Rat) * (ra + rb)) (r2 := rb) (L := (2 * (2 * 1048576 + 1))) ?_ ?_ (by omega) (by omega)) ?_; (focus ((with_reducible exact R.out.2.2.2); done)); (focus ((with_reducible exact R.out.2.1); done)); rw [hm2.out]; rintro e wx ⟨rfl, bx⟩; replace P := hide ((And.intro (P.out.1.step bx) (And.intro (P.out.2.1.step bx) (And.intro (P.out.2.2.1.step bx) (P.out.2.2.2.step bx))))); replace R := hide ((And.intro (R.out.1.step bx) (And.intro (R.out.2.1.step bx) (And.intro (R.out.2.2.1.step bx) (R.out.2.2.2.step bx))))); replace B := hide (Below.step B.out B.out.size bx)))
      all_goals
        go_wp2_with fail
        go_ret
        exact ⟨rfl, B.out⟩
    refine wpAnyH_with 2 #[true, true, true, true, true, false, false] (fun a W => ∃ (s5 : Bool) (A5 : Option Addr) (n5 c5 : Nat) (D5 : Option Addr) (m5 d5 : Nat) (s6 : Bool) (A6 : Option Addr) (n6 c6 : Nat) (D6 : Option Addr) (m6 d6 : Nat), a = ⟨#[rv sa (.slice Aa na ca) (.slice Da ma da), rv sb (.slice Ab nb cb) (.slice Db mb db), rv sc (.slice Ac nc cc) (.slice Dc mc dc), .pointer (some ⟨w.heap.size, 0, none⟩), .pointer (some ⟨w.heap.size + 1, 0, none⟩), .pointer (some ⟨w.heap.size + 1 + 1, 0, none⟩), .bool false, .pointer (some ⟨g, 0, none⟩), .int .i64 0, undef, .bool true, .bool false, rv sa (.slice Aa na ca) (.slice Da ma da), rv sb (.slice Ab nb cb) (.slice Db mb db), .int .i64 o1, .bool false, .bool false, undef, undef, undef, undef, .bool false, .bool false, undef, undef, undef, undef, .bool false, .tuple #[rv s4 (.slice A4 n4 c4) (.slice D4 m4 d4), .int .i64 0], .tuple #[rv s4 (.slice A4 n4 c4) (.slice D4 m4 d4), .int .i64 0], rv s4 (.slice A4 n4 c4) (.slice D4 m4 d4), .int .i64 0, rv s4 (.slice A4 n4 c4) (.slice D4 m4 d4), rv sa (.slice Aa na ca) (.slice Da ma da), rv sb (.slice Ab nb cb) (.slice Db mb db), rv s5 (.slice A5 n5 c5) (.slice D5 m5 d5), rv s6 (.slice A6 n6 c6) (.slice D6 m6 d6), undef, undef, undef, undef, undef, undef, undef, undef, undef, undef, undef, undef, undef, undef, undef, undef, undef, undef, undef, undef, undef, undef, undef, undef, undef, undef], []⟩ ∧ Sg w6.drew.heap.size w6.drew W [rblk] [none] (fun W => ((True ∧ Rc W (rv s5 (.slice A5 n5 c5) (.slice D5 m5 d5)) (ra + rb) (2 * 1048576 + 1)) ∧ Rc W (rv s6 (.slice A6 n6 c6) (.slice D6 m6 d6)) (((1 : Int) : Rat) / ((2 : Int) : Rat) * (ra + rb)) (2 * (2 * 1048576 + 1))))) ?_ (fun Hs20 => ?_)
    · rintro a W ⟨s5, A5, n5, c5, D5, m5, d5, s6, A6, n6, c6, D6, m6, d6, rfl, st0⟩
      have hHeld := st0.1
      have st := hide st0
      clear st0
      refine wpAnyH_ready (rs := [5]) (by kernel_rfl) (by simp) ?_
      refine AllReadyH.cons rfl (fun K hK => ?_) ?_
      · go_simp
        have st2 := Sg.make st.out (Firm2.and (Firm2.and Firm2.yes (Firm2.rc _ _ _)) (Firm2.rc _ _ _)) 0 _ rfl (by simp)
        refine hK.out _ _ st2.1 (fun hHeld => ?_)
        (try simp only [Act.put, List.setIfInBounds_toArray, List.set_cons_zero, List.set_cons_succ])
        exact Hs21.out _ _ ⟨s5, A5, n5, c5, D5, m5, d5, s6, A6, n6, c6, D6, m6, d6, W.heap.size, rfl, st2⟩
      exact AllReadyH.nil
    refine wpAnyH_with 2 #[true, true, true, true, false, true, false] (fun a W => ∃ (s5 : Bool) (A5 : Option Addr) (n5 c5 : Nat) (D5 : Option Addr) (m5 d5 : Nat) (g0 : Nat), a = ⟨#[rv sa (.slice Aa na ca) (.slice Da ma da), rv sb (.slice Ab nb cb) (.slice Db mb db), rv sc (.slice Ac nc cc) (.slice Dc mc dc), .pointer (some ⟨w.heap.size, 0, none⟩), .pointer (some ⟨w.heap.size + 1, 0, none⟩), .pointer (some ⟨w.heap.size + 1 + 1, 0, none⟩), .bool false, .pointer (some ⟨g, 0, none⟩), .int .i64 0, .pointer (some ⟨g0, 0, none⟩), .bool true, .bool false, rv sa (.slice Aa na ca) (.slice Da ma da), rv sb (.slice Ab nb cb) (.slice Db mb db), .int .i64 o1, .bool false, .bool false, undef, undef, undef, undef, .bool false, .bool false, undef, undef, undef, undef, .bool false, .tuple #[rv s4 (.slice A4 n4 c4) (.slice D4 m4 d4), .int .i64 0], .tuple #[rv s4 (.slice A4 n4 c4) (.slice D4 m4 d4), .int .i64 0], rv s4 (.slice A4 n4 c4) (.slice D4 m4 d4), .int .i64 0, rv s4 (.slice A4 n4 c4) (.slice D4 m4 d4), rv sa (.slice Aa na ca) (.slice Da ma da), rv sb (.slice Ab nb cb) (.slice Db mb db), rv s5 (.slice A5 n5 c5) (.slice D5 m5 d5), undef, undef, undef, undef, undef, undef, undef, undef, undef, undef, undef, undef, undef, undef, undef, undef, undef, undef, undef, undef, undef, undef, undef, undef, undef, undef, undef], []⟩ ∧ Sg w6.drew.heap.size w6.drew W [rblk] [some g0] (fun W => (True ∧ Rc W (rv s5 (.slice A5 n5 c5) (.slice D5 m5 d5)) (ra + rb) (2 * 1048576 + 1)))) ?_ (fun Hs11 => ?_)
    · rintro a W ⟨s5, A5, n5, c5, D5, m5, d5, g0, rfl, st0⟩
      have hHeld := st0.1
      have st := hide st0
      clear st0
      refine wpAnyH_ready (rs := [4]) (by kernel_rfl) (by simp) ?_
      refine AllReadyH.cons rfl (fun K hK => ?_) ?_
      · go_simp
        go_at_call 40
        refine Calls.mono (mul_r (L := 2 * 1048576 + 1) ((HF.out.step st.out.1).more (by omega)) (Rc.ra st.out.2.2.1.2) (by omega) (by omega)) ?_
        rintro e wx ⟨v9, rfl, hq, bx⟩
        obtain ⟨s6, A6, n6, c6, D6, m6, d6, rfl, tx⟩ := hq.parts
        clear hq
        try dsimp only
        have st2 := Sg.call (G := fun W => Rc W (rv s6 (.slice A6 n6 c6) (.slice D6 m6 d6)) (((1 : Int) : Rat) / ((2 : Int) : Rat) * (ra + rb)) (2 * (2 * 1048576 + 1))) st.out bx (Firm2.and Firm2.yes (Firm2.rc _ _ _)) tx
        have hSt := hide st2
        refine hK.out _ _ st2.1 (fun hHeld => ?_)
        clear hK K st2
        (try simp only [Act.put, List.setIfInBounds_toArray, List.set_cons_zero, List.set_cons_succ])
        exact Hs21.out _ _ ⟨s5, A5, n5, c5, D5, m5, d5, s6, A6, n6, c6, D6, m6, d6, g0, rfl, hSt.out⟩
      exact AllReadyH.nil
    refine wpAnyH_with 3 #[true, true, true, true, false, false, false] (fun a W => ∃ (s5 : Bool) (A5 : Option Addr) (n5 c5 : Nat) (D5 : Option Addr) (m5 d5 : Nat), a = ⟨#[rv sa (.slice Aa na ca) (.slice Da ma da), rv sb (.slice Ab nb cb) (.slice Db mb db), rv sc (.slice Ac nc cc) (.slice Dc mc dc), .pointer (some ⟨w.heap.size, 0, none⟩), .pointer (some ⟨w.heap.size + 1, 0, none⟩), .pointer (some ⟨w.heap.size + 1 + 1, 0, none⟩), .bool false, .pointer (some ⟨g, 0, none⟩), .int .i64 0, undef, .bool true, .bool false, rv sa (.slice Aa na ca) (.slice Da ma da), rv sb (.slice Ab nb cb) (.slice Db mb db), .int .i64 o1, .bool false, .bool false, undef, undef, undef, undef, .bool false, .bool false, undef, undef, undef, undef, .bool false, .tuple #[rv s4 (.slice A4 n4 c4) (.slice D4 m4 d4), .int .i64 0], .tuple #[rv s4 (.slice A4 n4 c4) (.slice D4 m4 d4), .int .i64 0], rv s4 (.slice A4 n4 c4) (.slice D4 m4 d4), .int .i64 0, rv s4 (.slice A4 n4 c4) (.slice D4 m4 d4), rv sa (.slice Aa na ca) (.slice Da ma da), rv sb (.slice Ab nb cb) (.slice Db mb db), rv s5 (.slice A5 n5 c5) (.slice D5 m5 d5), undef, undef, undef, undef, undef, undef, undef, undef, undef, undef, undef, undef, undef, undef, undef, undef, undef, undef, undef, undef, undef, undef, undef, undef, undef, undef, undef], []⟩ ∧ Sg w6.drew.heap.size w6.drew W [rblk] [none] (fun W => (True ∧ Rc W (rv s5 (.slice A5 n5 c5) (.slice D5 m5 d5)) (ra + rb) (2 * 1048576 + 1)))) ?_ (fun Hs10 => ?_)
    · rintro a W ⟨s5, A5, n5, c5, D5, m5, d5, rfl, st0⟩
      have hHeld := st0.1
      have st := hide st0
      clear st0
      refine wpAnyH_ready (rs := [4, 5]) (by kernel_rfl) (by simp) ?_
      refine AllReadyH.cons rfl (fun K hK => ?_) ?_
      · go_simp
        go_at_call 40
        refine Calls.mono (mul_r (L := 2 * 1048576 + 1) ((HF.out.step st.out.1).more (by omega)) (Rc.ra st.out.2.2.1.2) (by omega) (by omega)) ?_
        rintro e wx ⟨v9, rfl, hq, bx⟩
        obtain ⟨s6, A6, n6, c6, D6, m6, d6, rfl, tx⟩ := hq.parts
        clear hq
        try dsimp only
        have st2 := Sg.call (G := fun W => Rc W (rv s6 (.slice A6 n6 c6) (.slice D6 m6 d6)) (((1 : Int) : Rat) / ((2 : Int) : Rat) * (ra + rb)) (2 * (2 * 1048576 + 1))) st.out bx (Firm2.and Firm2.yes (Firm2.rc _ _ _)) tx
        have hSt := hide st2
        refine hK.out _ _ st2.1 (fun hHeld => ?_)
        clear hK K st2
        (try simp only [Act.put, List.setIfInBounds_toArray, List.set_cons_zero, List.set_cons_succ])
        exact Hs20.out _ _ ⟨s5, A5, n5, c5, D5, m5, d5, s6, A6, n6, c6, D6, m6, d6, rfl, hSt.out⟩
      refine AllReadyH.cons rfl (fun K hK => ?_) ?_
      · go_simp
        have st2 := Sg.make st.out (Firm2.and Firm2.yes (Firm2.rc _ _ _)) 0 _ rfl (by simp)
        refine hK.out _ _ st2.1 (fun hHeld => ?_)
        (try simp only [Act.put, List.setIfInBounds_toArray, List.set_cons_zero, List.set_cons_succ])
        exact Hs11.out _ _ ⟨s5, A5, n5, c5, D5, m5, d5, W.heap.size, rfl, st2⟩
      exact AllReadyH.nil
    refine wpAnyH_with 3 #[true, true, true, false, false, true, false] (fun a W => ∃ (g0 : Nat), a = ⟨#[rv sa (.slice Aa na ca) (.slice Da ma da), rv sb (.slice Ab nb cb) (.slice Db mb db), rv sc (.slice Ac nc cc) (.slice Dc mc dc), .pointer (some ⟨w.heap.size, 0, none⟩), .pointer (some ⟨w.heap.size + 1, 0, none⟩), .pointer (some ⟨w.heap.size + 1 + 1, 0, none⟩), .bool false, .pointer (some ⟨g, 0, none⟩), .int .i64 0, .pointer (some ⟨g0, 0, none⟩), .bool true, .bool false, rv sa (.slice Aa na ca) (.slice Da ma da), rv sb (.slice Ab nb cb) (.slice Db mb db), .int .i64 o1, .bool false, .bool false, undef, undef, undef, undef, .bool false, .bool false, undef, undef, undef, undef, .bool false, .tuple #[rv s4 (.slice A4 n4 c4) (.slice D4 m4 d4), .int .i64 0], .tuple #[rv s4 (.slice A4 n4 c4) (.slice D4 m4 d4), .int .i64 0], rv s4 (.slice A4 n4 c4) (.slice D4 m4 d4), .int .i64 0, rv s4 (.slice A4 n4 c4) (.slice D4 m4 d4), rv sa (.slice Aa na ca) (.slice Da ma da), rv sb (.slice Ab nb cb) (.slice Db mb db), undef, undef, undef, undef, undef, undef, undef, undef, undef, undef, undef, undef, undef, undef, undef, undef, undef, undef, undef, undef, undef, undef, undef, undef, undef, undef, undef, undef], []⟩ ∧ Sg w6.drew.heap.size w6.drew W [rblk] [some g0] (fun W => True)) ?_ (fun Hs01 => ?_)
    · rintro a W ⟨g0, rfl, st0⟩
      have hHeld := st0.1
      have st := hide st0
      clear st0
      refine wpAnyH_ready (rs := [3]) (by kernel_rfl) (by simp) ?_
      refine AllReadyH.cons rfl (fun K hK => ?_) ?_
      · go_simp
        go_at_call 41
        refine Calls.mono (add_r (L := 1048576) (SA.out.1.step st.out.1) (SA.out.2.step st.out.1) (by omega) (by omega)) ?_
        rintro e wx ⟨v9, rfl, hq, bx⟩
        obtain ⟨s5, A5, n5, c5, D5, m5, d5, rfl, tx⟩ := hq.parts
        clear hq
        try dsimp only
        have st2 := Sg.call (G := fun W => Rc W (rv s5 (.slice A5 n5 c5) (.slice D5 m5 d5)) (ra + rb) (2 * 1048576 + 1)) st.out bx Firm2.yes tx
        have hSt := hide st2
        refine hK.out _ _ st2.1 (fun hHeld => ?_)
        clear hK K st2
        (try simp only [Act.put, List.setIfInBounds_toArray, List.set_cons_zero, List.set_cons_succ])
        exact Hs11.out _ _ ⟨s5, A5, n5, c5, D5, m5, d5, g0, rfl, hSt.out⟩
      exact AllReadyH.nil
    refine wpAnyH_take (i := 0) (v := ?_) rfl (by kernel_rfl) (by kernel_rfl) (by kernel_rfl) (fun _ _ _ h => h) (Or.inl ⟨?_, ?_⟩) (by assumption) ?_
    rotate_left
    · rfl
    · (intro w hSw; have e0 := cell_keep P.out.2.2.2.1 hSw; have e1 := cell_keep P.out.2.2.2.2.1 hSw; have e2 := cell_keep P.out.2.2.2.2.2 hSw; go_simp; try with_reducible rfl)
    (try simp only [Act.put, List.setIfInBounds_toArray, List.set_cons_zero, List.set_cons_succ])
    refine wpAnyH_take (i := 1) (v := ?_) rfl (by kernel_rfl) (by kernel_rfl) (by kernel_rfl) (fun _ _ _ h => h) (Or.inl ⟨?_, ?_⟩) (by assumption) ?_
    rotate_left
    · rfl
    · (intro w hSw; have e0 := cell_keep P.out.1.1 hSw; have e1 := cell_keep P.out.1.2.1 hSw; have e2 := cell_keep P.out.1.2.2 hSw; go_simp; try with_reducible rfl)
    (try simp only [Act.put, List.setIfInBounds_toArray, List.set_cons_zero, List.set_cons_succ])
    refine wpAnyH_take (i := 2) (v := ?_) rfl (by kernel_rfl) (by kernel_rfl) (by kernel_rfl) (fun _ _ _ h => h) (Or.inl ⟨?_, ?_⟩) (by assumption) ?_
    rotate_left
    · rfl
    · (intro w hSw; have e0 := cell_keep P.out.2.1.1 hSw; have e1 := cell_keep P.out.2.1.2.1 hSw; have e2 := cell_keep P.out.2.1.2.2 hSw; go_simp; try with_reducible rfl)
    (try simp only [Act.put, List.setIfInBounds_toArray, List.set_cons_zero, List.set_cons_succ])
    refine wpAnyH_with 4 #[true, true, true, false, false, false, false] (fun a W => a = ⟨#[rv sa (.slice Aa na ca) (.slice Da ma da), rv sb (.slice Ab nb cb) (.slice Db mb db), rv sc (.slice Ac nc cc) (.slice Dc mc dc), .pointer (some ⟨w.heap.size, 0, none⟩), .pointer (some ⟨w.heap.size + 1, 0, none⟩), .pointer (some ⟨w.heap.size + 1 + 1, 0, none⟩), .bool false, .pointer (some ⟨g, 0, none⟩), .int .i64 0, undef, .bool true, .bool false, rv sa (.slice Aa na ca) (.slice Da ma da), rv sb (.slice Ab nb cb) (.slice Db mb db), .int .i64 o1, .bool false, .bool false, undef, undef, undef, undef, .bool false, .bool false, undef, undef, undef, undef, .bool false, .tuple #[rv s4 (.slice A4 n4 c4) (.slice D4 m4 d4), .int .i64 0], .tuple #[rv s4 (.slice A4 n4 c4) (.slice D4 m4 d4), .int .i64 0], rv s4 (.slice A4 n4 c4) (.slice D4 m4 d4), .int .i64 0, rv s4 (.slice A4 n4 c4) (.slice D4 m4 d4), rv sa (.slice Aa na ca) (.slice Da ma da), rv sb (.slice Ab nb cb) (.slice Db mb db), undef, undef, undef, undef, undef, undef, undef, undef, undef, undef, undef, undef, undef, undef, undef, undef, undef, undef, undef, undef, undef, undef, undef, undef, undef, undef, undef, undef], []⟩ ∧ Sg w6.drew.heap.size w6.drew W [rblk] [none] (fun W => True)) ?_ (fun Hs => Hs.out _ _ ⟨rfl, Sg.start _ _ 1⟩)
    rintro a W ⟨rfl, st0⟩
    have hHeld := st0.1
    have st := hide st0
    clear st0
    refine wpAnyH_ready (rs := [3, 5]) (by kernel_rfl) (by simp) ?_
    refine AllReadyH.cons rfl (fun K hK => ?_) ?_
    · go_simp
      go_at_call 41
      refine Calls.mono (add_r (L := 1048576) (SA.out.1.step st.out.1) (SA.out.2.step st.out.1) (by omega) (by omega)) ?_
      rintro e wx ⟨v9, rfl, hq, bx⟩
      obtain ⟨s5, A5, n5, c5, D5, m5, d5, rfl, tx⟩ := hq.parts
      clear hq
      try dsimp only
      have st2 := Sg.call (G := fun W => Rc W (rv s5 (.slice A5 n5 c5) (.slice D5 m5 d5)) (ra + rb) (2 * 1048576 + 1)) st.out bx Firm2.yes tx
      have hSt := hide st2
      refine hK.out _ _ st2.1 (fun hHeld => ?_)
      clear hK K st2
      (try simp only [Act.put, List.setIfInBounds_toArray, List.set_cons_zero, List.set_cons_succ])
      exact Hs10.out _ _ ⟨s5, A5, n5, c5, D5, m5, d5, rfl, hSt.out⟩
    refine AllReadyH.cons rfl (fun K hK => ?_) ?_
    · go_simp
      have st2 := Sg.make st.out Firm2.yes 0 _ rfl (by simp)
      refine hK.out _ _ st2.1 (fun hHeld => ?_)
      (try simp only [Act.put, List.setIfInBounds_toArray, List.set_cons_zero, List.set_cons_succ])
      exact Hs01.out _ _ ⟨W.heap.size, rfl, st2⟩
    exact AllReadyH.nil
  · go_enter Try.func8, Try.ntmps8
    go_wp2_with fail
    refine (rspeaks_true _).mono ?_
    rintro e w1 ⟨rfl, bx⟩
    replace P := hide ((And.intro (P.out.1.step bx) (And.intro (P.out.2.1.step bx) (P.out.2.2.step bx))))
    replace R := hide ((And.intro (R.out.1.step bx) (And.intro (R.out.2.1.step bx) (R.out.2.2.step bx))))
    replace SA := hide (And.intro (SA.out.1.step bx) (SA.out.2.step bx))
    replace B := hide (Below.step B.out B.out.size bx)
    clear bx
    obtain ⟨⟨p0, p1, p2⟩, ⟨q0, q1, q2⟩, r0, r1, r2⟩ := P.out
    go_wp2_with fail
    refine (cmp_r (r1 := ra) (r2 := rb) (L := (2 * (2 * 1048576 + 1))) R.out.1 R.out.2.1 (by omega) (by omega)).mono ?_
    rw [ho1.out]
    rintro e wq ⟨rfl, bx⟩
    replace P := hide ((And.intro (P.out.1.step bx) (And.intro (P.out.2.1.step bx) (P.out.2.2.step bx))))
    replace R := hide ((And.intro (R.out.1.step bx) (And.intro (R.out.2.1.step bx) (R.out.2.2.step bx))))
    replace SA := hide (And.intro (SA.out.1.step bx) (SA.out.2.step bx))
    replace B := hide (Below.step B.out B.out.size bx)
    clear bx
    obtain ⟨⟨p0, p1, p2⟩, ⟨q0, q1, q2⟩, r0, r1, r2⟩ := P.out
    go_wp2_with fail
    refine (cmp_r (r1 := rb) (r2 := rc) (L := (2 * (2 * 1048576 + 1))) R.out.2.1 R.out.2.2 (by omega) (by omega)).mono ?_
    rw [ho2.out]
    rintro e wq ⟨rfl, bx⟩
    replace P := hide ((And.intro (P.out.1.step bx) (And.intro (P.out.2.1.step bx) (P.out.2.2.step bx))))
    replace R := hide ((And.intro (R.out.1.step bx) (And.intro (R.out.2.1.step bx) (R.out.2.2.step bx))))
    replace SA := hide (And.intro (SA.out.1.step bx) (SA.out.2.step bx))
    replace B := hide (Below.step B.out B.out.size bx)
    clear bx
    obtain ⟨⟨p0, p1, p2⟩, ⟨q0, q1, q2⟩, r0, r1, r2⟩ := P.out
    go_wp2_with fail
    clear p0 p1 p2 q0 q1 q2 r0 r1 r2
    refine (of_r _ 1 2 (by omega) (by omega) (by omega) (by omega) (by omega)).mono ?_
    rintro e w5 ⟨v5, rfl, h5, bx⟩
    obtain ⟨s4, A4, n4, c4, D4, m4, d4, rfl, h5⟩ := h5.parts
    replace P := hide ((And.intro (P.out.1.step bx) (And.intro (P.out.2.1.step bx) (P.out.2.2.step bx))))
    replace R := hide ((And.intro (R.out.1.step bx) (And.intro (R.out.2.1.step bx) (R.out.2.2.step bx))))
    replace SA := hide (And.intro (SA.out.1.step bx) (SA.out.2.step bx))
    replace B := hide (Below.step B.out B.out.size bx)
    have U := hide h5
    clear h5 bx
    go_wp2_with fail
    obtain ⟨bx, y⟩ := fbox1 w5 s4 A4 n4 c4 D4 m4 d4
    generalize (w5.alloc (.cells #[.bool s4, .slice A4 n4 c4, .slice D4 m4 d4] 28)) = w6 at *
    have by_ := Below.step1 bx (Below.drew (Below.refl w6.heap.size w6))
    have HF := hide (Rc.ra (U.out.step by_))
    have P := hide (And.intro (P.out.1.step by_) (And.intro (P.out.2.1.step by_) (And.intro (P.out.2.2.step by_) (y.step (Below.drew (Below.refl w6.heap.size w6))))))
    have R := hide ((And.intro (R.out.1.step by_) (And.intro (R.out.2.1.step by_) (R.out.2.2.step by_))))
    have SA := hide (And.intro (SA.out.1.step by_) (SA.out.2.step by_))
    have B := hide (Below.step B.out B.out.size by_)
    generalize w5.heap.size = g at *
    clear bx by_ y U
    refine wp_region_held_drew (S := fun W => Below w6.drew.heap.size w6.drew W) (by kernel_rfl) (Below.refl _ _) (fun hHeld => ?_)
    refine wpAnyH_with 1 #[true, true, true, true, true, true, false] (fun a W => ∃ (s5 : Bool) (A5 : Option Addr) (n5 c5 : Nat) (D5 : Option Addr) (m5 d5 : Nat) (s6 : Bool) (A6 : Option Addr) (n6 c6 : Nat) (D6 : Option Addr) (m6 d6 : Nat) (g0 : Nat), a = ⟨#[rv sa (.slice Aa na ca) (.slice Da ma da), rv sb (.slice Ab nb cb) (.slice Db mb db), rv sc (.slice Ac nc cc) (.slice Dc mc dc), .pointer (some ⟨w.heap.size, 0, none⟩), .pointer (some ⟨w.heap.size + 1, 0, none⟩), .pointer (some ⟨w.heap.size + 1 + 1, 0, none⟩), .bool false, .pointer (some ⟨g, 0, none⟩), .int .i64 0, .pointer (some ⟨g0, 0, none⟩), .bool true, .bool false, rv sa (.slice Aa na ca) (.slice Da ma da), rv sb (.slice Ab nb cb) (.slice Db mb db), .int .i64 o1, .bool true, .bool true, rv sb (.slice Ab nb cb) (.slice Db mb db), rv sc (.slice Ac nc cc) (.slice Dc mc dc), .int .i64 o2, .bool false, .bool false, .bool false, undef, undef, undef, undef, .bool false, .tuple #[rv s4 (.slice A4 n4 c4) (.slice D4 m4 d4), .int .i64 0], .tuple #[rv s4 (.slice A4 n4 c4) (.slice D4 m4 d4), .int .i64 0], rv s4 (.slice A4 n4 c4) (.slice D4 m4 d4), .int .i64 0, rv s4 (.slice A4 n4 c4) (.slice D4 m4 d4), rv sa (.slice Aa na ca) (.slice Da ma da), rv sb (.slice Ab nb cb) (.slice Db mb db), rv s5 (.slice A5 n5 c5) (.slice D5 m5 d5), rv s6 (.slice A6 n6 c6) (.slice D6 m6 d6), undef, undef, undef, undef, undef, undef, undef, undef, undef, undef, undef, undef, undef, undef, undef, undef, undef, undef, undef, undef, undef, undef, undef, undef, undef, undef], []⟩ ∧ Sg w6.drew.heap.size w6.drew W [rblk] [some g0] (fun W => ((True ∧ Rc W (rv s5 (.slice A5 n5 c5) (.slice D5 m5 d5)) (ra + rb) (2 * 1048576 + 1)) ∧ Rc W (rv s6 (.slice A6 n6 c6) (.slice D6 m6 d6)) (((1 : Int) : Rat) / ((2 : Int) : Rat) * (ra + rb)) (2 * (2 * 1048576 + 1))))) ?_ (fun Hs21 => ?_)
    · rintro a W ⟨s5, A5, n5, c5, D5, m5, d5, s6, A6, n6, c6, D6, m6, d6, g0, rfl, st0⟩
      have hHeld := st0.1
      have st := hide st0
      clear st0
      obtain ⟨k0, f0⟩ := Sg.cells st.out 0 g0 #[.bool false, .slice none 0 0, .slice none 0 0] 28 rfl rfl 0
      obtain ⟨k1, f1⟩ := Sg.cells st.out 0 g0 #[.bool false, .slice none 0 0, .slice none 0 0] 28 rfl rfl 1
      obtain ⟨k2, f2⟩ := Sg.cells st.out 0 g0 #[.bool false, .slice none 0 0, .slice none 0 0] 28 rfl rfl 2
      simp only [List.getElem?_toArray, List.getElem?_cons_zero, List.getElem?_cons_succ] at k0
      simp only [List.getElem?_toArray, List.getElem?_cons_zero, List.getElem?_cons_succ] at k1
      simp only [List.getElem?_toArray, List.getElem?_cons_zero, List.getElem?_cons_succ] at k2
      have st9 := st.out
      have st9 := Sg.put st9 (Firm2.and (Firm2.and Firm2.yes (Firm2.rc _ _ _)) (Firm2.rc _ _ _)) 0 g0 0 _ 28 (.bool s6) rfl rfl rfl
      have st9 := Sg.put st9 (Firm2.and (Firm2.and Firm2.yes (Firm2.rc _ _ _)) (Firm2.rc _ _ _)) 0 g0 1 _ 28 (.slice A6 n6 c6) rfl rfl rfl
      have st9 := Sg.put st9 (Firm2.and (Firm2.and Firm2.yes (Firm2.rc _ _ _)) (Firm2.rc _ _ _)) 0 g0 2 _ 28 (.slice D6 m6 d6) rfl rfl rfl
      have st8 := hide st9
      clear st9
      refine wpAnyH_ready (rs := [6]) (by kernel_rfl) (by simp) ?_
      refine AllReadyH.cons rfl (fun K hK => ?_) ?_
      rotate_left
      · exact AllReadyH.nil
      go_simp
      refine hK.out _ _ st8.out.1 (fun hHeld => ?_)
      clear hK K k0 f0 k1 f1 k2 f2 st
      (try simp only [Act.put, List.setIfInBounds_toArray, List.set_cons_zero, List.set_cons_succ])
      generalize (((W.setCell ⟨g0, 0, none⟩ _).setCell ⟨g0, 1, none⟩ _).setCell ⟨g0, 2, none⟩ _) = W5 at *
      have st := st8
      clear st8
      refine wpAnyH_done (by kernel_rfl) ?_ _
      clear hHeld
      have s9 := st.out
      have R : Hid (Ra W5 (rv sa (.slice Aa na ca) (.slice Da ma da)) ra (2 * (2 * 1048576 + 1)) ∧ Ra W5 (rv sb (.slice Ab nb cb) (.slice Db mb db)) rb (2 * (2 * 1048576 + 1)) ∧ Ra W5 (rv sc (.slice Ac nc cc) (.slice Dc mc dc)) rc (2 * (2 * 1048576 + 1)) ∧ Ra W5 (rv s6 (.slice A6 n6 c6) (.slice D6 m6 d6)) (((1 : Int) : Rat) / ((2 : Int) : Rat) * (ra + rb)) (2 * (2 * 1048576 + 1))) := hide ⟨R.out.1.step s9.1, R.out.2.1.step s9.1, R.out.2.2.step s9.1, Rc.ra s9.2.2.1.2⟩
      have P := hide (And.intro (P.out.1.step s9.1) (And.intro (P.out.2.1.step s9.1) (And.intro (P.out.2.2.1.step s9.1) (show Fx W5 g0 s6 A6 n6 c6 D6 m6 d6 from ⟨(Sg.cells s9 0 g0 _ _ rfl rfl 0).1, (Sg.cells s9 0 g0 _ _ rfl rfl 1).1, (Sg.cells s9 0 g0 _ _ rfl rfl 2).1⟩))))
      have B := hide (Below.step B.out B.out.size s9.1)
      clear s9 st SA HF
      generalize W5 = w2 at *
      go_wp2_with fail
      have bx := Below.drew (Below.refl w2.heap.size w2)
      replace P := hide ((And.intro (P.out.1.step bx) (And.intro (P.out.2.1.step bx) (And.intro (P.out.2.2.1.step bx) (P.out.2.2.2.step bx)))))
      replace R := hide ((And.intro (R.out.1.step bx) (And.intro (R.out.2.1.step bx) (And.intro (R.out.2.2.1.step bx) (R.out.2.2.2.step bx)))))
      replace B := hide (Below.step B.out B.out.size bx)
      clear bx
      go_region_held3 (fun W => (W.cell? ⟨w.heap.size, 0, none⟩ = some (.bool sa) ∧ W.cell? ⟨w.heap.size, 1, none⟩ = some (.slice Aa na ca) ∧ W.cell? ⟨w.heap.size, 2, none⟩ = some (.slice Da ma da)) ∧ (W.cell? ⟨w.heap.size + 1, 0, none⟩ = some (.bool sb) ∧ W.cell? ⟨w.heap.size + 1, 1, none⟩ = some (.slice Ab nb cb) ∧ W.cell? ⟨w.heap.size + 1, 2, none⟩ = some (.slice Db mb db)) ∧ (W.cell? ⟨w.heap.size + 1 + 1, 0, none⟩ = some (.bool sc) ∧ W.cell? ⟨w.heap.size + 1 + 1, 1, none⟩ = some (.slice Ac nc cc) ∧ W.cell? ⟨w.heap.size + 1 + 1, 2, none⟩ = some (.slice Dc mc dc)) ∧ (W.cell? ⟨g0, 0, none⟩ = some (.bool s6) ∧ W.cell? ⟨g0, 1, none⟩ = some (.slice A6 n6 c6) ∧ W.cell? ⟨g0, 2, none⟩ = some (.slice D6 m6 d6)))
        (exact P.out)
        (first
          | (go_at_call 42; refine Calls.mono (cmp_r (r1 := ra) (r2 := rb) (L := (2 * (2 * 1048576 + 1))) ?_ ?_ (by omega) (by omega)) ?_; (focus ((with_reducible exact R.out.1); done)); (focus ((with_reducible exact R.out.2.1); done)); rw [ho1.out]; rintro e wx ⟨rfl, bx⟩; replace P := hide ((And.intro (P.out.1.step bx) (And.intro (P.out.2.1.step bx) (And.intro (P.out.2.2.1.step bx) (P.out.2.2.2.step bx))))); replace R := hide ((And.intro (R.out.1.step bx) (And.intro (R.out.2.1.step bx) (And.intro (R.out.2.2.1.step bx) (R.out.2.2.2.step bx))))); replace B := hide (Below.step B.out B.out.size bx))
          | (go_at_call 42; refine Calls.mono (cmp_r (r1 := rb) (r2 := ra) (L := (2 * (2 * 1048576 + 1))) ?_ ?_ (by omega) (by omega)) ?_; (focus ((with_reducible exact R.out.2.1); done)); (focus ((with_reducible exact R.out.1); done)); rw [hturn.out]; rintro e wx ⟨rfl, bx⟩; replace P := hide ((And.intro (P.out.1.step bx) (And.intro (P.out.2.1.step bx) (And.intro (P.out.2.2.1.step bx) (P.out.2.2.2.step bx))))); replace R := hide ((And.intro (R.out.1.step bx) (And.intro (R.out.2.1.step bx) (And.intro (R.out.2.2.1.step bx) (R.out.2.2.2.step bx))))); replace B := hide (Below.step B.out B.out.size bx))
          | (go_at_call 42; refine Calls.mono (cmp_r (r1 := ra) (r2 := ((1 : Int) : Rat) / ((2 : Int) : Rat) * (ra + rb)) (L := (2 * (2 * 1048576 + 1))) ?_ ?_ (by omega) (by omega)) ?_; (focus ((with_reducible exact R.out.1); done)); (focus ((with_reducible exact R.out.2.2.2); done)); rw [hm1.out]; rintro e wx ⟨rfl, bx⟩; replace P := hide ((And.intro (P.out.1.step bx) (And.intro (P.out.2.1.step bx) (And.intro (P.out.2.2.1.step bx) (P.out.2.2.2.step bx))))); replace R := hide ((And.intro (R.out.1.step bx) (And.intro (R.out.2.1.step bx) (And.intro (R.out.2.2.1.step bx) (R.out.2.2.2.step bx))))); replace B := hide (Below.step B.out B.out.size bx))
          | (go_at_call 42; refine Calls.mono (cmp_r (r1 := ((1 : Int) : Rat) / ((2 : Int) : Rat) * (ra + rb)) (r2 := rb) (L := (2 * (2 * 1048576 + 1))) ?_ ?_ (by omega) (by omega)) ?_; (focus ((with_reducible exact R.out.2.2.2); done)); (focus ((with_reducible exact R.out.2.1); done)); rw [hm2.out]; rintro e wx ⟨rfl, bx⟩; replace P := hide ((And.intro (P.out.1.step bx) (And.intro (P.out.2.1.step bx) (And.intro (P.out.2.2.1.step bx) (P.out.2.2.2.step bx))))); replace R := hide ((And.intro (R.out.1.step bx) (And.intro (R.out.2.1.step bx) (And.intro (R.out.2.2.1.step bx) (R.out.2.2.2.step bx))))); replace B := hide (Below.step B.out B.out.size bx)))
      all_goals
        go_wp2_with fail
        go_ret
        exact ⟨rfl, B.out⟩
    refine wpAnyH_with 2 #[true, true, true, true, true, false, false] (fun a W => ∃ (s5 : Bool) (A5 : Option Addr) (n5 c5 : Nat) (D5 : Option Addr) (m5 d5 : Nat) (s6 : Bool) (A6 : Option Addr) (n6 c6 : Nat) (D6 : Option Addr) (m6 d6 : Nat), a = ⟨#[rv sa (.slice Aa na ca) (.slice Da ma da), rv sb (.slice Ab nb cb) (.slice Db mb db), rv sc (.slice Ac nc cc) (.slice Dc mc dc), .pointer (some ⟨w.heap.size, 0, none⟩), .pointer (some ⟨w.heap.size + 1, 0, none⟩), .pointer (some ⟨w.heap.size + 1 + 1, 0, none⟩), .bool false, .pointer (some ⟨g, 0, none⟩), .int .i64 0, undef, .bool true, .bool false, rv sa (.slice Aa na ca) (.slice Da ma da), rv sb (.slice Ab nb cb) (.slice Db mb db), .int .i64 o1, .bool true, .bool true, rv sb (.slice Ab nb cb) (.slice Db mb db), rv sc (.slice Ac nc cc) (.slice Dc mc dc), .int .i64 o2, .bool false, .bool false, .bool false, undef, undef, undef, undef, .bool false, .tuple #[rv s4 (.slice A4 n4 c4) (.slice D4 m4 d4), .int .i64 0], .tuple #[rv s4 (.slice A4 n4 c4) (.slice D4 m4 d4), .int .i64 0], rv s4 (.slice A4 n4 c4) (.slice D4 m4 d4), .int .i64 0, rv s4 (.slice A4 n4 c4) (.slice D4 m4 d4), rv sa (.slice Aa na ca) (.slice Da ma da), rv sb (.slice Ab nb cb) (.slice Db mb db), rv s5 (.slice A5 n5 c5) (.slice D5 m5 d5), rv s6 (.slice A6 n6 c6) (.slice D6 m6 d6), undef, undef, undef, undef, undef, undef, undef, undef, undef, undef, undef, undef, undef, undef, undef, undef, undef, undef, undef, undef, undef, undef, undef, undef, undef, undef], []⟩ ∧ Sg w6.drew.heap.size w6.drew W [rblk] [none] (fun W => ((True ∧ Rc W (rv s5 (.slice A5 n5 c5) (.slice D5 m5 d5)) (ra + rb) (2 * 1048576 + 1)) ∧ Rc W (rv s6 (.slice A6 n6 c6) (.slice D6 m6 d6)) (((1 : Int) : Rat) / ((2 : Int) : Rat) * (ra + rb)) (2 * (2 * 1048576 + 1))))) ?_ (fun Hs20 => ?_)
    · rintro a W ⟨s5, A5, n5, c5, D5, m5, d5, s6, A6, n6, c6, D6, m6, d6, rfl, st0⟩
      have hHeld := st0.1
      have st := hide st0
      clear st0
      refine wpAnyH_ready (rs := [5]) (by kernel_rfl) (by simp) ?_
      refine AllReadyH.cons rfl (fun K hK => ?_) ?_
      · go_simp
        have st2 := Sg.make st.out (Firm2.and (Firm2.and Firm2.yes (Firm2.rc _ _ _)) (Firm2.rc _ _ _)) 0 _ rfl (by simp)
        refine hK.out _ _ st2.1 (fun hHeld => ?_)
        (try simp only [Act.put, List.setIfInBounds_toArray, List.set_cons_zero, List.set_cons_succ])
        exact Hs21.out _ _ ⟨s5, A5, n5, c5, D5, m5, d5, s6, A6, n6, c6, D6, m6, d6, W.heap.size, rfl, st2⟩
      exact AllReadyH.nil
    refine wpAnyH_with 2 #[true, true, true, true, false, true, false] (fun a W => ∃ (s5 : Bool) (A5 : Option Addr) (n5 c5 : Nat) (D5 : Option Addr) (m5 d5 : Nat) (g0 : Nat), a = ⟨#[rv sa (.slice Aa na ca) (.slice Da ma da), rv sb (.slice Ab nb cb) (.slice Db mb db), rv sc (.slice Ac nc cc) (.slice Dc mc dc), .pointer (some ⟨w.heap.size, 0, none⟩), .pointer (some ⟨w.heap.size + 1, 0, none⟩), .pointer (some ⟨w.heap.size + 1 + 1, 0, none⟩), .bool false, .pointer (some ⟨g, 0, none⟩), .int .i64 0, .pointer (some ⟨g0, 0, none⟩), .bool true, .bool false, rv sa (.slice Aa na ca) (.slice Da ma da), rv sb (.slice Ab nb cb) (.slice Db mb db), .int .i64 o1, .bool true, .bool true, rv sb (.slice Ab nb cb) (.slice Db mb db), rv sc (.slice Ac nc cc) (.slice Dc mc dc), .int .i64 o2, .bool false, .bool false, .bool false, undef, undef, undef, undef, .bool false, .tuple #[rv s4 (.slice A4 n4 c4) (.slice D4 m4 d4), .int .i64 0], .tuple #[rv s4 (.slice A4 n4 c4) (.slice D4 m4 d4), .int .i64 0], rv s4 (.slice A4 n4 c4) (.slice D4 m4 d4), .int .i64 0, rv s4 (.slice A4 n4 c4) (.slice D4 m4 d4), rv sa (.slice Aa na ca) (.slice Da ma da), rv sb (.slice Ab nb cb) (.slice Db mb db), rv s5 (.slice A5 n5 c5) (.slice D5 m5 d5), undef, undef, undef, undef, undef, undef, undef, undef, undef, undef, undef, undef, undef, undef, undef, undef, undef, undef, undef, undef, undef, undef, undef, undef, undef, undef, undef], []⟩ ∧ Sg w6.drew.heap.size w6.drew W [rblk] [some g0] (fun W => (True ∧ Rc W (rv s5 (.slice A5 n5 c5) (.slice D5 m5 d5)) (ra + rb) (2 * 1048576 + 1)))) ?_ (fun Hs11 => ?_)
    · rintro a W ⟨s5, A5, n5, c5, D5, m5, d5, g0, rfl, st0⟩
      have hHeld := st0.1
      have st := hide st0
      clear st0
      refine wpAnyH_ready (rs := [4]) (by kernel_rfl) (by simp) ?_
      refine AllReadyH.cons rfl (fun K hK => ?_) ?_
      · go_simp
        go_at_call 40
        refine Calls.mono (mul_r (L := 2 * 1048576 + 1) ((HF.out.step st.out.1).more (by omega)) (Rc.ra st.out.2.2.1.2) (by omega) (by omega)) ?_
        rintro e wx ⟨v9, rfl, hq, bx⟩
        obtain ⟨s6, A6, n6, c6, D6, m6, d6, rfl, tx⟩ := hq.parts
        clear hq
        try dsimp only
        have st2 := Sg.call (G := fun W => Rc W (rv s6 (.slice A6 n6 c6) (.slice D6 m6 d6)) (((1 : Int) : Rat) / ((2 : Int) : Rat) * (ra + rb)) (2 * (2 * 1048576 + 1))) st.out bx (Firm2.and Firm2.yes (Firm2.rc _ _ _)) tx
        have hSt := hide st2
        refine hK.out _ _ st2.1 (fun hHeld => ?_)
        clear hK K st2
        (try simp only [Act.put, List.setIfInBounds_toArray, List.set_cons_zero, List.set_cons_succ])
        exact Hs21.out _ _ ⟨s5, A5, n5, c5, D5, m5, d5, s6, A6, n6, c6, D6, m6, d6, g0, rfl, hSt.out⟩
      exact AllReadyH.nil
    refine wpAnyH_with 3 #[true, true, true, true, false, false, false] (fun a W => ∃ (s5 : Bool) (A5 : Option Addr) (n5 c5 : Nat) (D5 : Option Addr) (m5 d5 : Nat), a = ⟨#[rv sa (.slice Aa na ca) (.slice Da ma da), rv sb (.slice Ab nb cb) (.slice Db mb db), rv sc (.slice Ac nc cc) (.slice Dc mc dc), .pointer (some ⟨w.heap.size, 0, none⟩), .pointer (some ⟨w.heap.size + 1, 0, none⟩), .pointer (some ⟨w.heap.size + 1 + 1, 0, none⟩), .bool false, .pointer (some ⟨g, 0, none⟩), .int .i64 0, undef, .bool true, .bool false, rv sa (.slice Aa na ca) (.slice Da ma da), rv sb (.slice Ab nb cb) (.slice Db mb db), .int .i64 o1, .bool true, .bool true, rv sb (.slice Ab nb cb) (.slice Db mb db), rv sc (.slice Ac nc cc) (.slice Dc mc dc), .int .i64 o2, .bool false, .bool false, .bool false, undef, undef, undef, undef, .bool false, .tuple #[rv s4 (.slice A4 n4 c4) (.slice D4 m4 d4), .int .i64 0], .tuple #[rv s4 (.slice A4 n4 c4) (.slice D4 m4 d4), .int .i64 0], rv s4 (.slice A4 n4 c4) (.slice D4 m4 d4), .int .i64 0, rv s4 (.slice A4 n4 c4) (.slice D4 m4 d4), rv sa (.slice Aa na ca) (.slice Da ma da), rv sb (.slice Ab nb cb) (.slice Db mb db), rv s5 (.slice A5 n5 c5) (.slice D5 m5 d5), undef, undef, undef, undef, undef, undef, undef, undef, undef, undef, undef, undef, undef, undef, undef, undef, undef, undef, undef, undef, undef, undef, undef, undef, undef, undef, undef], []⟩ ∧ Sg w6.drew.heap.size w6.drew W [rblk] [none] (fun W => (True ∧ Rc W (rv s5 (.slice A5 n5 c5) (.slice D5 m5 d5)) (ra + rb) (2 * 1048576 + 1)))) ?_ (fun Hs10 => ?_)
    · rintro a W ⟨s5, A5, n5, c5, D5, m5, d5, rfl, st0⟩
      have hHeld := st0.1
      have st := hide st0
      clear st0
      refine wpAnyH_ready (rs := [4, 5]) (by kernel_rfl) (by simp) ?_
      refine AllReadyH.cons rfl (fun K hK => ?_) ?_
      · go_simp
        go_at_call 40
        refine Calls.mono (mul_r (L := 2 * 1048576 + 1) ((HF.out.step st.out.1).more (by omega)) (Rc.ra st.out.2.2.1.2) (by omega) (by omega)) ?_
        rintro e wx ⟨v9, rfl, hq, bx⟩
        obtain ⟨s6, A6, n6, c6, D6, m6, d6, rfl, tx⟩ := hq.parts
        clear hq
        try dsimp only
        have st2 := Sg.call (G := fun W => Rc W (rv s6 (.slice A6 n6 c6) (.slice D6 m6 d6)) (((1 : Int) : Rat) / ((2 : Int) : Rat) * (ra + rb)) (2 * (2 * 1048576 + 1))) st.out bx (Firm2.and Firm2.yes (Firm2.rc _ _ _)) tx
        have hSt := hide st2
        refine hK.out _ _ st2.1 (fun hHeld => ?_)
        clear hK K st2
        (try simp only [Act.put, List.setIfInBounds_toArray, List.set_cons_zero, List.set_cons_succ])
        exact Hs20.out _ _ ⟨s5, A5, n5, c5, D5, m5, d5, s6, A6, n6, c6, D6, m6, d6, rfl, hSt.out⟩
      refine AllReadyH.cons rfl (fun K hK => ?_) ?_
      · go_simp
        have st2 := Sg.make st.out (Firm2.and Firm2.yes (Firm2.rc _ _ _)) 0 _ rfl (by simp)
        refine hK.out _ _ st2.1 (fun hHeld => ?_)
        (try simp only [Act.put, List.setIfInBounds_toArray, List.set_cons_zero, List.set_cons_succ])
        exact Hs11.out _ _ ⟨s5, A5, n5, c5, D5, m5, d5, W.heap.size, rfl, st2⟩
      exact AllReadyH.nil
    refine wpAnyH_with 3 #[true, true, true, false, false, true, false] (fun a W => ∃ (g0 : Nat), a = ⟨#[rv sa (.slice Aa na ca) (.slice Da ma da), rv sb (.slice Ab nb cb) (.slice Db mb db), rv sc (.slice Ac nc cc) (.slice Dc mc dc), .pointer (some ⟨w.heap.size, 0, none⟩), .pointer (some ⟨w.heap.size + 1, 0, none⟩), .pointer (some ⟨w.heap.size + 1 + 1, 0, none⟩), .bool false, .pointer (some ⟨g, 0, none⟩), .int .i64 0, .pointer (some ⟨g0, 0, none⟩), .bool true, .bool false, rv sa (.slice Aa na ca) (.slice Da ma da), rv sb (.slice Ab nb cb) (.slice Db mb db), .int .i64 o1, .bool true, .bool true, rv sb (.slice Ab nb cb) (.slice Db mb db), rv sc (.slice Ac nc cc) (.slice Dc mc dc), .int .i64 o2, .bool false, .bool false, .bool false, undef, undef, undef, undef, .bool false, .tuple #[rv s4 (.slice A4 n4 c4) (.slice D4 m4 d4), .int .i64 0], .tuple #[rv s4 (.slice A4 n4 c4) (.slice D4 m4 d4), .int .i64 0], rv s4 (.slice A4 n4 c4) (.slice D4 m4 d4), .int .i64 0, rv s4 (.slice A4 n4 c4) (.slice D4 m4 d4), rv sa (.slice Aa na ca) (.slice Da ma da), rv sb (.slice Ab nb cb) (.slice Db mb db), undef, undef, undef, undef, undef, undef, undef, undef, undef, undef, undef, undef, undef, undef, undef, undef, undef, undef, undef, undef, undef, undef, undef, undef, undef, undef, undef, undef], []⟩ ∧ Sg w6.drew.heap.size w6.drew W [rblk] [some g0] (fun W => True)) ?_ (fun Hs01 => ?_)
    · rintro a W ⟨g0, rfl, st0⟩
      have hHeld := st0.1
      have st := hide st0
      clear st0
      refine wpAnyH_ready (rs := [3]) (by kernel_rfl) (by simp) ?_
      refine AllReadyH.cons rfl (fun K hK => ?_) ?_
      · go_simp
        go_at_call 41
        refine Calls.mono (add_r (L := 1048576) (SA.out.1.step st.out.1) (SA.out.2.step st.out.1) (by omega) (by omega)) ?_
        rintro e wx ⟨v9, rfl, hq, bx⟩
        obtain ⟨s5, A5, n5, c5, D5, m5, d5, rfl, tx⟩ := hq.parts
        clear hq
        try dsimp only
        have st2 := Sg.call (G := fun W => Rc W (rv s5 (.slice A5 n5 c5) (.slice D5 m5 d5)) (ra + rb) (2 * 1048576 + 1)) st.out bx Firm2.yes tx
        have hSt := hide st2
        refine hK.out _ _ st2.1 (fun hHeld => ?_)
        clear hK K st2
        (try simp only [Act.put, List.setIfInBounds_toArray, List.set_cons_zero, List.set_cons_succ])
        exact Hs11.out _ _ ⟨s5, A5, n5, c5, D5, m5, d5, g0, rfl, hSt.out⟩
      exact AllReadyH.nil
    refine wpAnyH_take (i := 0) (v := ?_) rfl (by kernel_rfl) (by kernel_rfl) (by kernel_rfl) (fun _ _ _ h => h) (Or.inl ⟨?_, ?_⟩) (by assumption) ?_
    rotate_left
    · rfl
    · (intro w hSw; have e0 := cell_keep P.out.2.2.2.1 hSw; have e1 := cell_keep P.out.2.2.2.2.1 hSw; have e2 := cell_keep P.out.2.2.2.2.2 hSw; go_simp; try with_reducible rfl)
    (try simp only [Act.put, List.setIfInBounds_toArray, List.set_cons_zero, List.set_cons_succ])
    refine wpAnyH_take (i := 1) (v := ?_) rfl (by kernel_rfl) (by kernel_rfl) (by kernel_rfl) (fun _ _ _ h => h) (Or.inl ⟨?_, ?_⟩) (by assumption) ?_
    rotate_left
    · rfl
    · (intro w hSw; have e0 := cell_keep P.out.1.1 hSw; have e1 := cell_keep P.out.1.2.1 hSw; have e2 := cell_keep P.out.1.2.2 hSw; go_simp; try with_reducible rfl)
    (try simp only [Act.put, List.setIfInBounds_toArray, List.set_cons_zero, List.set_cons_succ])
    refine wpAnyH_take (i := 2) (v := ?_) rfl (by kernel_rfl) (by kernel_rfl) (by kernel_rfl) (fun _ _ _ h => h) (Or.inl ⟨?_, ?_⟩) (by assumption) ?_
    rotate_left
    · rfl
    · (intro w hSw; have e0 := cell_keep P.out.2.1.1 hSw; have e1 := cell_keep P.out.2.1.2.1 hSw; have e2 := cell_keep P.out.2.1.2.2 hSw; go_simp; try with_reducible rfl)
    (try simp only [Act.put, List.setIfInBounds_toArray, List.set_cons_zero, List.set_cons_succ])
    refine wpAnyH_with 4 #[true, true, true, false, false, false, false] (fun a W => a = ⟨#[rv sa (.slice Aa na ca) (.slice Da ma da), rv sb (.slice Ab nb cb) (.slice Db mb db), rv sc (.slice Ac nc cc) (.slice Dc mc dc), .pointer (some ⟨w.heap.size, 0, none⟩), .pointer (some ⟨w.heap.size + 1, 0, none⟩), .pointer (some ⟨w.heap.size + 1 + 1, 0, none⟩), .bool false, .pointer (some ⟨g, 0, none⟩), .int .i64 0, undef, .bool true, .bool false, rv sa (.slice Aa na ca) (.slice Da ma da), rv sb (.slice Ab nb cb) (.slice Db mb db), .int .i64 o1, .bool true, .bool true, rv sb (.slice Ab nb cb) (.slice Db mb db), rv sc (.slice Ac nc cc) (.slice Dc mc dc), .int .i64 o2, .bool false, .bool false, .bool false, undef, undef, undef, undef, .bool false, .tuple #[rv s4 (.slice A4 n4 c4) (.slice D4 m4 d4), .int .i64 0], .tuple #[rv s4 (.slice A4 n4 c4) (.slice D4 m4 d4), .int .i64 0], rv s4 (.slice A4 n4 c4) (.slice D4 m4 d4), .int .i64 0, rv s4 (.slice A4 n4 c4) (.slice D4 m4 d4), rv sa (.slice Aa na ca) (.slice Da ma da), rv sb (.slice Ab nb cb) (.slice Db mb db), undef, undef, undef, undef, undef, undef, undef, undef, undef, undef, undef, undef, undef, undef, undef, undef, undef, undef, undef, undef, undef, undef, undef, undef, undef, undef, undef, undef], []⟩ ∧ Sg w6.drew.heap.size w6.drew W [rblk] [none] (fun W => True)) ?_ (fun Hs => Hs.out _ _ ⟨rfl, Sg.start _ _ 1⟩)
    rintro a W ⟨rfl, st0⟩
    have hHeld := st0.1
    have st := hide st0
    clear st0
    refine wpAnyH_ready (rs := [3, 5]) (by kernel_rfl) (by simp) ?_
    refine AllReadyH.cons rfl (fun K hK => ?_) ?_
    · go_simp
      go_at_call 41
      refine Calls.mono (add_r (L := 1048576) (SA.out.1.step st.out.1) (SA.out.2.step st.out.1) (by omega) (by omega)) ?_
      rintro e wx ⟨v9, rfl, hq, bx⟩
      obtain ⟨s5, A5, n5, c5, D5, m5, d5, rfl, tx⟩ := hq.parts
      clear hq
      try dsimp only
      have st2 := Sg.call (G := fun W => Rc W (rv s5 (.slice A5 n5 c5) (.slice D5 m5 d5)) (ra + rb) (2 * 1048576 + 1)) st.out bx Firm2.yes tx
      have hSt := hide st2
      refine hK.out _ _ st2.1 (fun hHeld => ?_)
      clear hK K st2
      (try simp only [Act.put, List.setIfInBounds_toArray, List.set_cons_zero, List.set_cons_succ])
      exact Hs10.out _ _ ⟨s5, A5, n5, c5, D5, m5, d5, rfl, hSt.out⟩
    refine AllReadyH.cons rfl (fun K hK => ?_) ?_
    · go_simp
      have st2 := Sg.make st.out Firm2.yes 0 _ rfl (by simp)
      refine hK.out _ _ st2.1 (fun hHeld => ?_)
      (try simp only [Act.put, List.setIfInBounds_toArray, List.set_cons_zero, List.set_cons_succ])
      exact Hs01.out _ _ ⟨W.heap.size, rfl, st2⟩
    exact AllReadyH.nil
  · go_enter Try.func8, Try.ntmps8
    go_wp2_with fail
    refine (rspeaks_true _).mono ?_
    rintro e w1 ⟨rfl, bx⟩
    replace P := hide ((And.intro (P.out.1.step bx) (And.intro (P.out.2.1.step bx) (P.out.2.2.step bx))))
    replace R := hide ((And.intro (R.out.1.step bx) (And.intro (R.out.2.1.step bx) (R.out.2.2.step bx))))
    replace SA := hide (And.intro (SA.out.1.step bx) (SA.out.2.step bx))
    replace B := hide (Below.step B.out B.out.size bx)
    clear bx
    obtain ⟨⟨p0, p1, p2⟩, ⟨q0, q1, q2⟩, r0, r1, r2⟩ := P.out
    go_wp2_with fail
    refine (cmp_r (r1 := ra) (r2 := rb) (L := (2 * (2 * 1048576 + 1))) R.out.1 R.out.2.1 (by omega) (by omega)).mono ?_
    rw [ho1.out]
    rintro e wq ⟨rfl, bx⟩
    replace P := hide ((And.intro (P.out.1.step bx) (And.intro (P.out.2.1.step bx) (P.out.2.2.step bx))))
    replace R := hide ((And.intro (R.out.1.step bx) (And.intro (R.out.2.1.step bx) (R.out.2.2.step bx))))
    replace SA := hide (And.intro (SA.out.1.step bx) (SA.out.2.step bx))
    replace B := hide (Below.step B.out B.out.size bx)
    clear bx
    obtain ⟨⟨p0, p1, p2⟩, ⟨q0, q1, q2⟩, r0, r1, r2⟩ := P.out
    go_wp2_with fail
    refine (cmp_r (r1 := rb) (r2 := rc) (L := (2 * (2 * 1048576 + 1))) R.out.2.1 R.out.2.2 (by omega) (by omega)).mono ?_
    rw [ho2.out]
    rintro e wq ⟨rfl, bx⟩
    replace P := hide ((And.intro (P.out.1.step bx) (And.intro (P.out.2.1.step bx) (P.out.2.2.step bx))))
    replace R := hide ((And.intro (R.out.1.step bx) (And.intro (R.out.2.1.step bx) (R.out.2.2.step bx))))
    replace SA := hide (And.intro (SA.out.1.step bx) (SA.out.2.step bx))
    replace B := hide (Below.step B.out B.out.size bx)
    clear bx
    obtain ⟨⟨p0, p1, p2⟩, ⟨q0, q1, q2⟩, r0, r1, r2⟩ := P.out
    go_wp2_with fail
    refine (cmp_r (r1 := ra) (r2 := rc) (L := (2 * (2 * 1048576 + 1))) R.out.1 R.out.2.2 (by omega) (by omega)).mono ?_
    rw [ho3.out]
    rintro e wq ⟨rfl, bx⟩
    replace P := hide ((And.intro (P.out.1.step bx) (And.intro (P.out.2.1.step bx) (P.out.2.2.step bx))))
    replace R := hide ((And.intro (R.out.1.step bx) (And.intro (R.out.2.1.step bx) (R.out.2.2.step bx))))
    replace SA := hide (And.intro (SA.out.1.step bx) (SA.out.2.step bx))
    replace B := hide (Below.step B.out B.out.size bx)
    clear bx
    obtain ⟨⟨p0, p1, p2⟩, ⟨q0, q1, q2⟩, r0, r1, r2⟩ := P.out
    go_wp2_with fail
    clear p0 p1 p2 q0 q1 q2 r0 r1 r2
    refine (of_r _ 1 2 (by omega) (by omega) (by omega) (by omega) (by omega)).mono ?_
    rintro e w5 ⟨v5, rfl, h5, bx⟩
    obtain ⟨s4, A4, n4, c4, D4, m4, d4, rfl, h5⟩ := h5.parts
    replace P := hide ((And.intro (P.out.1.step bx) (And.intro (P.out.2.1.step bx) (P.out.2.2.step bx))))
    replace R := hide ((And.intro (R.out.1.step bx) (And.intro (R.out.2.1.step bx) (R.out.2.2.step bx))))
    replace SA := hide (And.intro (SA.out.1.step bx) (SA.out.2.step bx))
    replace B := hide (Below.step B.out B.out.size bx)
    have U := hide h5
    clear h5 bx
    go_wp2_with fail
    obtain ⟨bx, y⟩ := fbox1 w5 s4 A4 n4 c4 D4 m4 d4
    generalize (w5.alloc (.cells #[.bool s4, .slice A4 n4 c4, .slice D4 m4 d4] 28)) = w6 at *
    have by_ := Below.step1 bx (Below.drew (Below.refl w6.heap.size w6))
    have HF := hide (Rc.ra (U.out.step by_))
    have P := hide (And.intro (P.out.1.step by_) (And.intro (P.out.2.1.step by_) (And.intro (P.out.2.2.step by_) (y.step (Below.drew (Below.refl w6.heap.size w6))))))
    have R := hide ((And.intro (R.out.1.step by_) (And.intro (R.out.2.1.step by_) (R.out.2.2.step by_))))
    have SA := hide (And.intro (SA.out.1.step by_) (SA.out.2.step by_))
    have B := hide (Below.step B.out B.out.size by_)
    generalize w5.heap.size = g at *
    clear bx by_ y U
    refine wp_region_held_drew (S := fun W => Below w6.drew.heap.size w6.drew W) (by kernel_rfl) (Below.refl _ _) (fun hHeld => ?_)
    refine wpAnyH_with 1 #[true, true, true, true, true, true, false] (fun a W => ∃ (s5 : Bool) (A5 : Option Addr) (n5 c5 : Nat) (D5 : Option Addr) (m5 d5 : Nat) (s6 : Bool) (A6 : Option Addr) (n6 c6 : Nat) (D6 : Option Addr) (m6 d6 : Nat) (g0 : Nat), a = ⟨#[rv sa (.slice Aa na ca) (.slice Da ma da), rv sb (.slice Ab nb cb) (.slice Db mb db), rv sc (.slice Ac nc cc) (.slice Dc mc dc), .pointer (some ⟨w.heap.size, 0, none⟩), .pointer (some ⟨w.heap.size + 1, 0, none⟩), .pointer (some ⟨w.heap.size + 1 + 1, 0, none⟩), .bool false, .pointer (some ⟨g, 0, none⟩), .int .i64 0, .pointer (some ⟨g0, 0, none⟩), .bool true, .bool false, rv sa (.slice Aa na ca) (.slice Da ma da), rv sb (.slice Ab nb cb) (.slice Db mb db), .int .i64 o1, .bool true, .bool true, rv sb (.slice Ab nb cb) (.slice Db mb db), rv sc (.slice Ac nc cc) (.slice Dc mc dc), .int .i64 o2, .bool true, .bool true, .bool true, rv sa (.slice Aa na ca) (.slice Da ma da), rv sc (.slice Ac nc cc) (.slice Dc mc dc), .int .i64 o3, .bool false, .bool false, .tuple #[rv s4 (.slice A4 n4 c4) (.slice D4 m4 d4), .int .i64 0], .tuple #[rv s4 (.slice A4 n4 c4) (.slice D4 m4 d4), .int .i64 0], rv s4 (.slice A4 n4 c4) (.slice D4 m4 d4), .int .i64 0, rv s4 (.slice A4 n4 c4) (.slice D4 m4 d4), rv sa (.slice Aa na ca) (.slice Da ma da), rv sb (.slice Ab nb cb) (.slice Db mb db), rv s5 (.slice A5 n5 c5) (.slice D5 m5 d5), rv s6 (.slice A6 n6 c6) (.slice D6 m6 d6), undef, undef, undef, undef, undef, undef, undef, undef, undef, undef, undef, undef, undef, undef, undef, undef, undef, undef, undef, undef, undef, undef, undef, undef, undef, undef], []⟩ ∧ Sg w6.drew.heap.size w6.drew W [rblk] [some g0] (fun W => ((True ∧ Rc W (rv s5 (.slice A5 n5 c5) (.slice D5 m5 d5)) (ra + rb) (2 * 1048576 + 1)) ∧ Rc W (rv s6 (.slice A6 n6 c6) (.slice D6 m6 d6)) (((1 : Int) : Rat) / ((2 : Int) : Rat) * (ra + rb)) (2 * (2 * 1048576 + 1))))) ?_ (fun Hs21 => ?_)
    · rintro a W ⟨s5, A5, n5, c5, D5, m5, d5, s6, A6, n6, c6, D6, m6, d6, g0, rfl, st0⟩
      have hHeld := st0.1
      have st := hide st0
      clear st0
      obtain ⟨k0, f0⟩ := Sg.cells st.out 0 g0 #[.bool false, .slice none 0 0, .slice none 0 0] 28 rfl rfl 0
      obtain ⟨k1, f1⟩ := Sg.cells st.out 0 g0 #[.bool false, .slice none 0 0, .slice none 0 0] 28 rfl rfl 1
      obtain ⟨k2, f2⟩ := Sg.cells st.out 0 g0 #[.bool false, .slice none 0 0, .slice none 0 0] 28 rfl rfl 2
      simp only [List.getElem?_toArray, List.getElem?_cons_zero, List.getElem?_cons_succ] at k0
      simp only [List.getElem?_toArray, List.getElem?_cons_zero, List.getElem?_cons_succ] at k1
      simp only [List.getElem?_toArray, List.getElem?_cons_zero, List.getElem?_cons_succ] at k2
      have st9 := st.out
      have st9 := Sg.put st9 (Firm2.and (Firm2.and Firm2.yes (Firm2.rc _ _ _)) (Firm2.rc _ _ _)) 0 g0 0 _ 28 (.bool s6) rfl rfl rfl
      have st9 := Sg.put st9 (Firm2.and (Firm2.and Firm2.yes (Firm2.rc _ _ _)) (Firm2.rc _ _ _)) 0 g0 1 _ 28 (.slice A6 n6 c6) rfl rfl rfl
      have st9 := Sg.put st9 (Firm2.and (Firm2.and Firm2.yes (Firm2.rc _ _ _)) (Firm2.rc _ _ _)) 0 g0 2 _ 28 (.slice D6 m6 d6) rfl rfl rfl
      have st8 := hide st9
      clear st9
      refine wpAnyH_ready (rs := [6]) (by kernel_rfl) (by simp) ?_
      refine AllReadyH.cons rfl (fun K hK => ?_) ?_
      rotate_left
      · exact AllReadyH.nil
      go_simp
      refine hK.out _ _ st8.out.1 (fun hHeld => ?_)
      clear hK K k0 f0 k1 f1 k2 f2 st
      (try simp only [Act.put, List.setIfInBounds_toArray, List.set_cons_zero, List.set_cons_succ])
      generalize (((W.setCell ⟨g0, 0, none⟩ _).setCell ⟨g0, 1, none⟩ _).setCell ⟨g0, 2, none⟩ _) = W5 at *
      have st := st8
      clear st8
      refine wpAnyH_done (by kernel_rfl) ?_ _
      clear hHeld
      have s9 := st.out
      have R : Hid (Ra W5 (rv sa (.slice Aa na ca) (.slice Da ma da)) ra (2 * (2 * 1048576 + 1)) ∧ Ra W5 (rv sb (.slice Ab nb cb) (.slice Db mb db)) rb (2 * (2 * 1048576 + 1)) ∧ Ra W5 (rv sc (.slice Ac nc cc) (.slice Dc mc dc)) rc (2 * (2 * 1048576 + 1)) ∧ Ra W5 (rv s6 (.slice A6 n6 c6) (.slice D6 m6 d6)) (((1 : Int) : Rat) / ((2 : Int) : Rat) * (ra + rb)) (2 * (2 * 1048576 + 1))) := hide ⟨R.out.1.step s9.1, R.out.2.1.step s9.1, R.out.2.2.step s9.1, Rc.ra s9.2.2.1.2⟩
      have P := hide (And.intro (P.out.1.step s9.1) (And.intro (P.out.2.1.step s9.1) (And.intro (P.out.2.2.1.step s9.1) (show Fx W5 g0 s6 A6 n6 c6 D6 m6 d6 from ⟨(Sg.cells s9 0 g0 _ _ rfl rfl 0).1, (Sg.cells s9 0 g0 _ _ rfl rfl 1).1, (Sg.cells s9 0 g0 _ _ rfl rfl 2).1⟩))))
      have B := hide (Below.step B.out B.out.size s9.1)
      clear s9 st SA HF
      generalize W5 = w2 at *
      go_wp2_with fail
      have bx := Below.drew (Below.refl w2.heap.size w2)
      replace P := hide ((And.intro (P.out.1.step bx) (And.intro (P.out.2.1.step bx) (And.intro (P.out.2.2.1.step bx) (P.out.2.2.2.step bx)))))
      replace R := hide ((And.intro (R.out.1.step bx) (And.intro (R.out.2.1.step bx) (And.intro (R.out.2.2.1.step bx) (R.out.2.2.2.step bx)))))
      replace B := hide (Below.step B.out B.out.size bx)
      clear bx
      go_region_held3 (fun W => (W.cell? ⟨w.heap.size, 0, none⟩ = some (.bool sa) ∧ W.cell? ⟨w.heap.size, 1, none⟩ = some (.slice Aa na ca) ∧ W.cell? ⟨w.heap.size, 2, none⟩ = some (.slice Da ma da)) ∧ (W.cell? ⟨w.heap.size + 1, 0, none⟩ = some (.bool sb) ∧ W.cell? ⟨w.heap.size + 1, 1, none⟩ = some (.slice Ab nb cb) ∧ W.cell? ⟨w.heap.size + 1, 2, none⟩ = some (.slice Db mb db)) ∧ (W.cell? ⟨w.heap.size + 1 + 1, 0, none⟩ = some (.bool sc) ∧ W.cell? ⟨w.heap.size + 1 + 1, 1, none⟩ = some (.slice Ac nc cc) ∧ W.cell? ⟨w.heap.size + 1 + 1, 2, none⟩ = some (.slice Dc mc dc)) ∧ (W.cell? ⟨g0, 0, none⟩ = some (.bool s6) ∧ W.cell? ⟨g0, 1, none⟩ = some (.slice A6 n6 c6) ∧ W.cell? ⟨g0, 2, none⟩ = some (.slice D6 m6 d6)))
        (exact P.out)
        (first
          | (go_at_call 42; refine Calls.mono (cmp_r (r1 := ra) (r2 := rb) (L := (2 * (2 * 1048576 + 1))) ?_ ?_ (by omega) (by omega)) ?_; (focus ((with_reducible exact R.out.1); done)); (focus ((with_reducible exact R.out.2.1); done)); rw [ho1.out]; rintro e wx ⟨rfl, bx⟩; replace P := hide ((And.intro (P.out.1.step bx) (And.intro (P.out.2.1.step bx) (And.intro (P.out.2.2.1.step bx) (P.out.2.2.2.step bx))))); replace R := hide ((And.intro (R.out.1.step bx) (And.intro (R.out.2.1.step bx) (And.intro (R.out.2.2.1.step bx) (R.out.2.2.2.step bx))))); replace B := hide (Below.step B.out B.out.size bx))
          | (go_at_call 42; refine Calls.mono (cmp_r (r1 := rb) (r2 := ra) (L := (2 * (2 * 1048576 + 1))) ?_ ?_ (by omega) (by omega)) ?_; (focus ((with_reducible exact R.out.2.1); done)); (focus ((with_reducible exact R.out.1); done)); rw [hturn.out]; rintro e wx ⟨rfl, bx⟩; replace P := hide ((And.intro (P.out.1.step bx) (And.intro (P.out.2.1.step bx) (And.intro (P.out.2.2.1.step bx) (P.out.2.2.2.step bx))))); replace R := hide ((And.intro (R.out.1.step bx) (And.intro (R.out.2.1.step bx) (And.intro (R.out.2.2.1.step bx) (R.out.2.2.2.step bx))))); replace B := hide (Below.step B.out B.out.size bx))
          | (go_at_call 42; refine Calls.mono (cmp_r (r1 := ra) (r2 := ((1 : Int) : Rat) / ((2 : Int) : Rat) * (ra + rb)) (L := (2 * (2 * 1048576 + 1))) ?_ ?_ (by omega) (by omega)) ?_; (focus ((with_reducible exact R.out.1); done)); (focus ((with_reducible exact R.out.2.2.2); done)); rw [hm1.out]; rintro e wx ⟨rfl, bx⟩; replace P := hide ((And.intro (P.out.1.step bx) (And.intro (P.out.2.1.step bx) (And.intro (P.out.2.2.1.step bx) (P.out.2.2.2.step bx))))); replace R := hide ((And.intro (R.out.1.step bx) (And.intro (R.out.2.1.step bx) (And.intro (R.out.2.2.1.step bx) (R.out.2.2.2.step bx))))); replace B := hide (Below.step B.out B.out.size bx))
          | (go_at_call 42; refine Calls.mono (cmp_r (r1 := ((1 : Int) : Rat) / ((2 : Int) : Rat) * (ra + rb)) (r2 := rb) (L := (2 * (2 * 1048576 + 1))) ?_ ?_ (by omega) (by omega)) ?_; (focus ((with_reducible exact R.out.2.2.2); done)); (focus ((with_reducible exact R.out.2.1); done)); rw [hm2.out]; rintro e wx ⟨rfl, bx⟩; replace P := hide ((And.intro (P.out.1.step bx) (And.intro (P.out.2.1.step bx) (And.intro (P.out.2.2.1.step bx) (P.out.2.2.2.step bx))))); replace R := hide ((And.intro (R.out.1.step bx) (And.intro (R.out.2.1.step bx) (And.intro (R.out.2.2.1.step bx) (R.out.2.2.2.step bx))))); replace B := hide (Below.step B.out B.out.size bx)))
      all_goals
        go_wp2_with fail
        go_ret
        exact ⟨rfl, B.out⟩
    refine wpAnyH_with 2 #[true, true, true, true, true, false, false] (fun a W => ∃ (s5 : Bool) (A5 : Option Addr) (n5 c5 : Nat) (D5 : Option Addr) (m5 d5 : Nat) (s6 : Bool) (A6 : Option Addr) (n6 c6 : Nat) (D6 : Option Addr) (m6 d6 : Nat), a = ⟨#[rv sa (.slice Aa na ca) (.slice Da ma da), rv sb (.slice Ab nb cb) (.slice Db mb db), rv sc (.slice Ac nc cc) (.slice Dc mc dc), .pointer (some ⟨w.heap.size, 0, none⟩), .pointer (some ⟨w.heap.size + 1, 0, none⟩), .pointer (some ⟨w.heap.size + 1 + 1, 0, none⟩), .bool false, .pointer (some ⟨g, 0, none⟩), .int .i64 0, undef, .bool true, .bool false, rv sa (.slice Aa na ca) (.slice Da ma da), rv sb (.slice Ab nb cb) (.slice Db mb db), .int .i64 o1, .bool true, .bool true, rv sb (.slice Ab nb cb) (.slice Db mb db), rv sc (.slice Ac nc cc) (.slice Dc mc dc), .int .i64 o2, .bool true, .bool true, .bool true, rv sa (.slice Aa na ca) (.slice Da ma da), rv sc (.slice Ac nc cc) (.slice Dc mc dc), .int .i64 o3, .bool false, .bool false, .tuple #[rv s4 (.slice A4 n4 c4) (.slice D4 m4 d4), .int .i64 0], .tuple #[rv s4 (.slice A4 n4 c4) (.slice D4 m4 d4), .int .i64 0], rv s4 (.slice A4 n4 c4) (.slice D4 m4 d4), .int .i64 0, rv s4 (.slice A4 n4 c4) (.slice D4 m4 d4), rv sa (.slice Aa na ca) (.slice Da ma da), rv sb (.slice Ab nb cb) (.slice Db mb db), rv s5 (.slice A5 n5 c5) (.slice D5 m5 d5), rv s6 (.slice A6 n6 c6) (.slice D6 m6 d6), undef, undef, undef, undef, undef, undef, undef, undef, undef, undef, undef, undef, undef, undef, undef, undef, undef, undef, undef, undef, undef, undef, undef, undef, undef, undef], []⟩ ∧ Sg w6.drew.heap.size w6.drew W [rblk] [none] (fun W => ((True ∧ Rc W (rv s5 (.slice A5 n5 c5) (.slice D5 m5 d5)) (ra + rb) (2 * 1048576 + 1)) ∧ Rc W (rv s6 (.slice A6 n6 c6) (.slice D6 m6 d6)) (((1 : Int) : Rat) / ((2 : Int) : Rat) * (ra + rb)) (2 * (2 * 1048576 + 1))))) ?_ (fun Hs20 => ?_)
    · rintro a W ⟨s5, A5, n5, c5, D5, m5, d5, s6, A6, n6, c6, D6, m6, d6, rfl, st0⟩
      have hHeld := st0.1
      have st := hide st0
      clear st0
      refine wpAnyH_ready (rs := [5]) (by kernel_rfl) (by simp) ?_
      refine AllReadyH.cons rfl (fun K hK => ?_) ?_
      · go_simp
        have st2 := Sg.make st.out (Firm2.and (Firm2.and Firm2.yes (Firm2.rc _ _ _)) (Firm2.rc _ _ _)) 0 _ rfl (by simp)
        refine hK.out _ _ st2.1 (fun hHeld => ?_)
        (try simp only [Act.put, List.setIfInBounds_toArray, List.set_cons_zero, List.set_cons_succ])
        exact Hs21.out _ _ ⟨s5, A5, n5, c5, D5, m5, d5, s6, A6, n6, c6, D6, m6, d6, W.heap.size, rfl, st2⟩
      exact AllReadyH.nil
    refine wpAnyH_with 2 #[true, true, true, true, false, true, false] (fun a W => ∃ (s5 : Bool) (A5 : Option Addr) (n5 c5 : Nat) (D5 : Option Addr) (m5 d5 : Nat) (g0 : Nat), a = ⟨#[rv sa (.slice Aa na ca) (.slice Da ma da), rv sb (.slice Ab nb cb) (.slice Db mb db), rv sc (.slice Ac nc cc) (.slice Dc mc dc), .pointer (some ⟨w.heap.size, 0, none⟩), .pointer (some ⟨w.heap.size + 1, 0, none⟩), .pointer (some ⟨w.heap.size + 1 + 1, 0, none⟩), .bool false, .pointer (some ⟨g, 0, none⟩), .int .i64 0, .pointer (some ⟨g0, 0, none⟩), .bool true, .bool false, rv sa (.slice Aa na ca) (.slice Da ma da), rv sb (.slice Ab nb cb) (.slice Db mb db), .int .i64 o1, .bool true, .bool true, rv sb (.slice Ab nb cb) (.slice Db mb db), rv sc (.slice Ac nc cc) (.slice Dc mc dc), .int .i64 o2, .bool true, .bool true, .bool true, rv sa (.slice Aa na ca) (.slice Da ma da), rv sc (.slice Ac nc cc) (.slice Dc mc dc), .int .i64 o3, .bool false, .bool false, .tuple #[rv s4 (.slice A4 n4 c4) (.slice D4 m4 d4), .int .i64 0], .tuple #[rv s4 (.slice A4 n4 c4) (.slice D4 m4 d4), .int .i64 0], rv s4 (.slice A4 n4 c4) (.slice D4 m4 d4), .int .i64 0, rv s4 (.slice A4 n4 c4) (.slice D4 m4 d4), rv sa (.slice Aa na ca) (.slice Da ma da), rv sb (.slice Ab nb cb) (.slice Db mb db), rv s5 (.slice A5 n5 c5) (.slice D5 m5 d5), undef, undef, undef, undef, undef, undef, undef, undef, undef, undef, undef, undef, undef, undef, undef, undef, undef, undef, undef, undef, undef, undef, undef, undef, undef, undef, undef], []⟩ ∧ Sg w6.drew.heap.size w6.drew W [rblk] [some g0] (fun W => (True ∧ Rc W (rv s5 (.slice A5 n5 c5) (.slice D5 m5 d5)) (ra + rb) (2 * 1048576 + 1)))) ?_ (fun Hs11 => ?_)
    · rintro a W ⟨s5, A5, n5, c5, D5, m5, d5, g0, rfl, st0⟩
      have hHeld := st0.1
      have st := hide st0
      clear st0
      refine wpAnyH_ready (rs := [4]) (by kernel_rfl) (by simp) ?_
      refine AllReadyH.cons rfl (fun K hK => ?_) ?_
      · go_simp
        go_at_call 40
        refine Calls.mono (mul_r (L := 2 * 1048576 + 1) ((HF.out.step st.out.1).more (by omega)) (Rc.ra st.out.2.2.1.2) (by omega) (by omega)) ?_
        rintro e wx ⟨v9, rfl, hq, bx⟩
        obtain ⟨s6, A6, n6, c6, D6, m6, d6, rfl, tx⟩ := hq.parts
        clear hq
        try dsimp only
        have st2 := Sg.call (G := fun W => Rc W (rv s6 (.slice A6 n6 c6) (.slice D6 m6 d6)) (((1 : Int) : Rat) / ((2 : Int) : Rat) * (ra + rb)) (2 * (2 * 1048576 + 1))) st.out bx (Firm2.and Firm2.yes (Firm2.rc _ _ _)) tx
        have hSt := hide st2
        refine hK.out _ _ st2.1 (fun hHeld => ?_)
        clear hK K st2
        (try simp only [Act.put, List.setIfInBounds_toArray, List.set_cons_zero, List.set_cons_succ])
        exact Hs21.out _ _ ⟨s5, A5, n5, c5, D5, m5, d5, s6, A6, n6, c6, D6, m6, d6, g0, rfl, hSt.out⟩
      exact AllReadyH.nil
    refine wpAnyH_with 3 #[true, true, true, true, false, false, false] (fun a W => ∃ (s5 : Bool) (A5 : Option Addr) (n5 c5 : Nat) (D5 : Option Addr) (m5 d5 : Nat), a = ⟨#[rv sa (.slice Aa na ca) (.slice Da ma da), rv sb (.slice Ab nb cb) (.slice Db mb db), rv sc (.slice Ac nc cc) (.slice Dc mc dc), .pointer (some ⟨w.heap.size, 0, none⟩), .pointer (some ⟨w.heap.size + 1, 0, none⟩), .pointer (some ⟨w.heap.size + 1 + 1, 0, none⟩), .bool false, .pointer (some ⟨g, 0, none⟩), .int .i64 0, undef, .bool true, .bool false, rv sa (.slice Aa na ca) (.slice Da ma da), rv sb (.slice Ab nb cb) (.slice Db mb db), .int .i64 o1, .bool true, .bool true, rv sb (.slice Ab nb cb) (.slice Db mb db), rv sc (.slice Ac nc cc) (.slice Dc mc dc), .int .i64 o2, .bool true, .bool true, .bool true, rv sa (.slice Aa na ca) (.slice Da ma da), rv sc (.slice Ac nc cc) (.slice Dc mc dc), .int .i64 o3, .bool false, .bool false, .tuple #[rv s4 (.slice A4 n4 c4) (.slice D4 m4 d4), .int .i64 0], .tuple #[rv s4 (.slice A4 n4 c4) (.slice D4 m4 d4), .int .i64 0], rv s4 (.slice A4 n4 c4) (.slice D4 m4 d4), .int .i64 0, rv s4 (.slice A4 n4 c4) (.slice D4 m4 d4), rv sa (.slice Aa na ca) (.slice Da ma da), rv sb (.slice Ab nb cb) (.slice Db mb db), rv s5 (.slice A5 n5 c5) (.slice D5 m5 d5), undef, undef, undef, undef, undef, undef, undef, undef, undef, undef, undef, undef, undef, undef, undef, undef, undef, undef, undef, undef, undef, undef, undef, undef, undef, undef, undef], []⟩ ∧ Sg w6.drew.heap.size w6.drew W [rblk] [none] (fun W => (True ∧ Rc W (rv s5 (.slice A5 n5 c5) (.slice D5 m5 d5)) (ra + rb) (2 * 1048576 + 1)))) ?_ (fun Hs10 => ?_)
    · rintro a W ⟨s5, A5, n5, c5, D5, m5, d5, rfl, st0⟩
      have hHeld := st0.1
      have st := hide st0
      clear st0
      refine wpAnyH_ready (rs := [4, 5]) (by kernel_rfl) (by simp) ?_
      refine AllReadyH.cons rfl (fun K hK => ?_) ?_
      · go_simp
        go_at_call 40
        refine Calls.mono (mul_r (L := 2 * 1048576 + 1) ((HF.out.step st.out.1).more (by omega)) (Rc.ra st.out.2.2.1.2) (by omega) (by omega)) ?_
        rintro e wx ⟨v9, rfl, hq, bx⟩
        obtain ⟨s6, A6, n6, c6, D6, m6, d6, rfl, tx⟩ := hq.parts
        clear hq
        try dsimp only
        have st2 := Sg.call (G := fun W => Rc W (rv s6 (.slice A6 n6 c6) (.slice D6 m6 d6)) (((1 : Int) : Rat) / ((2 : Int) : Rat) * (ra + rb)) (2 * (2 * 1048576 + 1))) st.out bx (Firm2.and Firm2.yes (Firm2.rc _ _ _)) tx
        have hSt := hide st2
        refine hK.out _ _ st2.1 (fun hHeld => ?_)
        clear hK K st2
        (try simp only [Act.put, List.setIfInBounds_toArray, List.set_cons_zero, List.set_cons_succ])
        exact Hs20.out _ _ ⟨s5, A5, n5, c5, D5, m5, d5, s6, A6, n6, c6, D6, m6, d6, rfl, hSt.out⟩
      refine AllReadyH.cons rfl (fun K hK => ?_) ?_
      · go_simp
        have st2 := Sg.make st.out (Firm2.and Firm2.yes (Firm2.rc _ _ _)) 0 _ rfl (by simp)
        refine hK.out _ _ st2.1 (fun hHeld => ?_)
        (try simp only [Act.put, List.setIfInBounds_toArray, List.set_cons_zero, List.set_cons_succ])
        exact Hs11.out _ _ ⟨s5, A5, n5, c5, D5, m5, d5, W.heap.size, rfl, st2⟩
      exact AllReadyH.nil
    refine wpAnyH_with 3 #[true, true, true, false, false, true, false] (fun a W => ∃ (g0 : Nat), a = ⟨#[rv sa (.slice Aa na ca) (.slice Da ma da), rv sb (.slice Ab nb cb) (.slice Db mb db), rv sc (.slice Ac nc cc) (.slice Dc mc dc), .pointer (some ⟨w.heap.size, 0, none⟩), .pointer (some ⟨w.heap.size + 1, 0, none⟩), .pointer (some ⟨w.heap.size + 1 + 1, 0, none⟩), .bool false, .pointer (some ⟨g, 0, none⟩), .int .i64 0, .pointer (some ⟨g0, 0, none⟩), .bool true, .bool false, rv sa (.slice Aa na ca) (.slice Da ma da), rv sb (.slice Ab nb cb) (.slice Db mb db), .int .i64 o1, .bool true, .bool true, rv sb (.slice Ab nb cb) (.slice Db mb db), rv sc (.slice Ac nc cc) (.slice Dc mc dc), .int .i64 o2, .bool true, .bool true, .bool true, rv sa (.slice Aa na ca) (.slice Da ma da), rv sc (.slice Ac nc cc) (.slice Dc mc dc), .int .i64 o3, .bool false, .bool false, .tuple #[rv s4 (.slice A4 n4 c4) (.slice D4 m4 d4), .int .i64 0], .tuple #[rv s4 (.slice A4 n4 c4) (.slice D4 m4 d4), .int .i64 0], rv s4 (.slice A4 n4 c4) (.slice D4 m4 d4), .int .i64 0, rv s4 (.slice A4 n4 c4) (.slice D4 m4 d4), rv sa (.slice Aa na ca) (.slice Da ma da), rv sb (.slice Ab nb cb) (.slice Db mb db), undef, undef, undef, undef, undef, undef, undef, undef, undef, undef, undef, undef, undef, undef, undef, undef, undef, undef, undef, undef, undef, undef, undef, undef, undef, undef, undef, undef], []⟩ ∧ Sg w6.drew.heap.size w6.drew W [rblk] [some g0] (fun W => True)) ?_ (fun Hs01 => ?_)
    · rintro a W ⟨g0, rfl, st0⟩
      have hHeld := st0.1
      have st := hide st0
      clear st0
      refine wpAnyH_ready (rs := [3]) (by kernel_rfl) (by simp) ?_
      refine AllReadyH.cons rfl (fun K hK => ?_) ?_
      · go_simp
        go_at_call 41
        refine Calls.mono (add_r (L := 1048576) (SA.out.1.step st.out.1) (SA.out.2.step st.out.1) (by omega) (by omega)) ?_
        rintro e wx ⟨v9, rfl, hq, bx⟩
        obtain ⟨s5, A5, n5, c5, D5, m5, d5, rfl, tx⟩ := hq.parts
        clear hq
        try dsimp only
        have st2 := Sg.call (G := fun W => Rc W (rv s5 (.slice A5 n5 c5) (.slice D5 m5 d5)) (ra + rb) (2 * 1048576 + 1)) st.out bx Firm2.yes tx
        have hSt := hide st2
        refine hK.out _ _ st2.1 (fun hHeld => ?_)
        clear hK K st2
        (try simp only [Act.put, List.setIfInBounds_toArray, List.set_cons_zero, List.set_cons_succ])
        exact Hs11.out _ _ ⟨s5, A5, n5, c5, D5, m5, d5, g0, rfl, hSt.out⟩
      exact AllReadyH.nil
    refine wpAnyH_take (i := 0) (v := ?_) rfl (by kernel_rfl) (by kernel_rfl) (by kernel_rfl) (fun _ _ _ h => h) (Or.inl ⟨?_, ?_⟩) (by assumption) ?_
    rotate_left
    · rfl
    · (intro w hSw; have e0 := cell_keep P.out.2.2.2.1 hSw; have e1 := cell_keep P.out.2.2.2.2.1 hSw; have e2 := cell_keep P.out.2.2.2.2.2 hSw; go_simp; try with_reducible rfl)
    (try simp only [Act.put, List.setIfInBounds_toArray, List.set_cons_zero, List.set_cons_succ])
    refine wpAnyH_take (i := 1) (v := ?_) rfl (by kernel_rfl) (by kernel_rfl) (by kernel_rfl) (fun _ _ _ h => h) (Or.inl ⟨?_, ?_⟩) (by assumption) ?_
    rotate_left
    · rfl
    · (intro w hSw; have e0 := cell_keep P.out.1.1 hSw; have e1 := cell_keep P.out.1.2.1 hSw; have e2 := cell_keep P.out.1.2.2 hSw; go_simp; try with_reducible rfl)
    (try simp only [Act.put, List.setIfInBounds_toArray, List.set_cons_zero, List.set_cons_succ])
    refine wpAnyH_take (i := 2) (v := ?_) rfl (by kernel_rfl) (by kernel_rfl) (by kernel_rfl) (fun _ _ _ h => h) (Or.inl ⟨?_, ?_⟩) (by assumption) ?_
    rotate_left
    · rfl
    · (intro w hSw; have e0 := cell_keep P.out.2.1.1 hSw; have e1 := cell_keep P.out.2.1.2.1 hSw; have e2 := cell_keep P.out.2.1.2.2 hSw; go_simp; try with_reducible rfl)
    (try simp only [Act.put, List.setIfInBounds_toArray, List.set_cons_zero, List.set_cons_succ])
    refine wpAnyH_with 4 #[true, true, true, false, false, false, false] (fun a W => a = ⟨#[rv sa (.slice Aa na ca) (.slice Da ma da), rv sb (.slice Ab nb cb) (.slice Db mb db), rv sc (.slice Ac nc cc) (.slice Dc mc dc), .pointer (some ⟨w.heap.size, 0, none⟩), .pointer (some ⟨w.heap.size + 1, 0, none⟩), .pointer (some ⟨w.heap.size + 1 + 1, 0, none⟩), .bool false, .pointer (some ⟨g, 0, none⟩), .int .i64 0, undef, .bool true, .bool false, rv sa (.slice Aa na ca) (.slice Da ma da), rv sb (.slice Ab nb cb) (.slice Db mb db), .int .i64 o1, .bool true, .bool true, rv sb (.slice Ab nb cb) (.slice Db mb db), rv sc (.slice Ac nc cc) (.slice Dc mc dc), .int .i64 o2, .bool true, .bool true, .bool true, rv sa (.slice Aa na ca) (.slice Da ma da), rv sc (.slice Ac nc cc) (.slice Dc mc dc), .int .i64 o3, .bool false, .bool false, .tuple #[rv s4 (.slice A4 n4 c4) (.slice D4 m4 d4), .int .i64 0], .tuple #[rv s4 (.slice A4 n4 c4) (.slice D4 m4 d4), .int .i64 0], rv s4 (.slice A4 n4 c4) (.slice D4 m4 d4), .int .i64 0, rv s4 (.slice A4 n4 c4) (.slice D4 m4 d4), rv sa (.slice Aa na ca) (.slice Da ma da), rv sb (.slice Ab nb cb) (.slice Db mb db), undef, undef, undef, undef, undef, undef, undef, undef, undef, undef, undef, undef, undef, undef, undef, undef, undef, undef, undef, undef, undef, undef, undef, undef, undef, undef, undef, undef], []⟩ ∧ Sg w6.drew.heap.size w6.drew W [rblk] [none] (fun W => True)) ?_ (fun Hs => Hs.out _ _ ⟨rfl, Sg.start _ _ 1⟩)
    rintro a W ⟨rfl, st0⟩
    have hHeld := st0.1
    have st := hide st0
    clear st0
    refine wpAnyH_ready (rs := [3, 5]) (by kernel_rfl) (by simp) ?_
    refine AllReadyH.cons rfl (fun K hK => ?_) ?_
    · go_simp
      go_at_call 41
      refine Calls.mono (add_r (L := 1048576) (SA.out.1.step st.out.1) (SA.out.2.step st.out.1) (by omega) (by omega)) ?_
      rintro e wx ⟨v9, rfl, hq, bx⟩
      obtain ⟨s5, A5, n5, c5, D5, m5, d5, rfl, tx⟩ := hq.parts
      clear hq
      try dsimp only
      have st2 := Sg.call (G := fun W => Rc W (rv s5 (.slice A5 n5 c5) (.slice D5 m5 d5)) (ra + rb) (2 * 1048576 + 1)) st.out bx Firm2.yes tx
      have hSt := hide st2
      refine hK.out _ _ st2.1 (fun hHeld => ?_)
      clear hK K st2
      (try simp only [Act.put, List.setIfInBounds_toArray, List.set_cons_zero, List.set_cons_succ])
      exact Hs10.out _ _ ⟨s5, A5, n5, c5, D5, m5, d5, rfl, hSt.out⟩
    refine AllReadyH.cons rfl (fun K hK => ?_) ?_
    · go_simp
      have st2 := Sg.make st.out Firm2.yes 0 _ rfl (by simp)
      refine hK.out _ _ st2.1 (fun hHeld => ?_)
      (try simp only [Act.put, List.setIfInBounds_toArray, List.set_cons_zero, List.set_cons_succ])
      exact Hs01.out _ _ ⟨W.heap.size, rfl, st2⟩
    exact AllReadyH.nil

end Go.Proofs.Ytpcchagnbkohnaa
