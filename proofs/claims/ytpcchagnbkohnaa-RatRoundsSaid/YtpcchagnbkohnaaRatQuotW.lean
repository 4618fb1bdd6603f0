/-
  The walk of RatQuotients: true.
-/
import Derived.Test.YtpcchagnbkohnaaRatQ5
import Derived.Test.YtpcchagnbkohnaaRatM
import Derived.Test.YtpcchagnbkohnaaBundleG
import Derived.Test.YtpcchagnbkohnaaLat2


namespace Go.Proofs.Ytpcchagnbkohnaa
open Go.RowKit Go.Proofs.Ytpcchagnbkohnaa.Num
set_option linter.unusedVariables false
set_option linter.unusedSimpArgs false
set_option maxRecDepth 100000

theorem Firm2.rl (v : Value) (s : Bool) (xs ys : List Nat) (L : Nat) : Firm2 (fun W => Rl W v s xs ys L) := ⟨fun _ _ h hb => h.step hb, fun _ _ j u ⟨x, y, e, ⟨A, n, c, e1, a1, a2⟩, ⟨D, m, d, e2, b1, b2⟩⟩ hn => ⟨x, y, e, ⟨A, n, c, e1, by rw [World.size_setCell]; exact a1.bset hn j u, a2⟩, ⟨D, m, d, e2, by rw [World.size_setCell]; exact b1.bset hn j u, b2⟩⟩⟩
theorem Nw.open12 {w : World} {A : Option Addr} {n c x L : Nat} (h : Nw w (.slice A n c) x L) : ∃ xs, vl Q xs = x ∧ (n ≤ 12 → Lw w (.slice A n c) xs 12) := by
  obtain ⟨xs, hx, A', n', c', e, h1, h2, h3, h4, h5⟩ := h.lw
  injection e with e1 e2 e3
  subst e1; subst e2; subst e3
  exact ⟨xs, hx, fun hn => ⟨A, n, c, rfl, h1, h2, h3, h4, hn⟩⟩
theorem cmpR_zero {r : Rat} (h : r ≠ 0) : (cmpR r 0 == 0) = false := by
  unfold cmpR
  split
  · rfl
  · split
    · rfl
    · exfalso; grind
set_option maxHeartbeats 16000000 in
theorem ratquot_true (w : World) (s : Bool) (ua ta : Value) (t : Bool) (ub tb : Value) (xa ya xb yb : Nat) (hua : Nw w ua xa 17592186043904) (hva : Nw w ta ya 17592186043904) (hub : Nw w ub xb 17592186043904) (hvb : Nw w tb yb 17592186043904) :
    Calls Try.prog 4 #[rv s ua ta, rv t ub tb] w fun e w' => e = .returned (.bool true) ∧ Below w.heap.size w w' := by
  obtain ⟨Aa, na, ca, rfl⟩ := hua.slice
  obtain ⟨Da, ma, da, rfl⟩ := hva.slice
  have ba1 : na ≤ 17592186043904 := by obtain ⟨_, _, _, xs, e, h1, h2, h3, h4, h5, h6⟩ := hua; cases e; exact h6
  have ba2 : ma ≤ 17592186043904 := by obtain ⟨_, _, _, xs, e, h1, h2, h3, h4, h5, h6⟩ := hva; cases e; exact h6
  obtain ⟨xsa, -, hla⟩ := hua.open12
  obtain ⟨ysa, -, hka⟩ := hva.open12
  obtain ⟨Ab, nb, cb, rfl⟩ := hub.slice
  obtain ⟨Db, mb, db, rfl⟩ := hvb.slice
  have bb1 : nb ≤ 17592186043904 := by obtain ⟨_, _, _, xs, e, h1, h2, h3, h4, h5, h6⟩ := hub; cases e; exact h6
  have bb2 : mb ≤ 17592186043904 := by obtain ⟨_, _, _, xs, e, h1, h2, h3, h4, h5, h6⟩ := hvb; cases e; exact h6
  obtain ⟨xsb, -, hlb⟩ := hub.open12
  obtain ⟨ysb, -, hkb⟩ := hvb.open12
  obtain ⟨y0, ⟨p0, p1, p2⟩, q0, q1, q2⟩ := f_world0 w s t Aa Da Ab Db na ca ma da nb cb mb db
  have b2 : Below w.heap.size w ((w.alloc (rbox s (.slice Aa na ca) (.slice Da ma da))).alloc (rbox t (.slice Ab nb cb) (.slice Db mb db))) := ((Below.refl _ _).alloc (Nat.le_refl _) _).alloc (by simp) _
  have P : Hid (Fx ((w.alloc (rbox s (.slice Aa na ca) (.slice Da ma da))).alloc (rbox t (.slice Ab nb cb) (.slice Db mb db))) w.heap.size s Aa na ca Da ma da ∧ Fx ((w.alloc (rbox s (.slice Aa na ca) (.slice Da ma da))).alloc (rbox t (.slice Ab nb cb) (.slice Db mb db))) (w.heap.size + 1) t Ab nb cb Db mb db) := hide ⟨⟨p0, p1, p2⟩, q0, q1, q2⟩
  have B := hide b2
  have HL : Hid (¬ (12 < na + ma ∨ 12 < nb + mb) → Rl ((w.alloc (rbox s (.slice Aa na ca) (.slice Da ma da))).alloc (rbox t (.slice Ab nb cb) (.slice Db mb db))) (rv s (.slice Aa na ca) (.slice Da ma da)) s xsa ysa 12 ∧ Rl ((w.alloc (rbox s (.slice Aa na ca) (.slice Da ma da))).alloc (rbox t (.slice Ab nb cb) (.slice Db mb db))) (rv t (.slice Ab nb cb) (.slice Db mb db)) t xsb ysb 12) := hide (fun h => ⟨⟨_, _, rfl, (hla (by omega)).step b2, (hka (by omega)).step b2⟩, ⟨_, _, rfl, (hlb (by omega)).step b2, (hkb (by omega)).step b2⟩⟩)
  have GR := hide (fun W => rgreat_any (w := W) (s := s) (t := t) (A := Aa) (D := Da) (F := Ab) (H := Db) (n := na) (c := ca) (m := ma) (d := da) (k := nb) (f := cb) (l := mb) (h := db) (by omega) (by omega) (by omega) (by omega))
  clear hua hva hub hvb hla hka hlb hkb y0 p0 p1 p2 q0 q1 q2 b2 ba1 ba2 bb1 bb2
  by_cases hg : 12 < na + ma ∨ 12 < nb + mb
  · have HG := hide (decide_eq_true hg)
    clear hg HL
    go_enter Try.func4, Try.ntmps4
    go_wp2_with fail
    refine (rspeaks_true _).mono ?_
    rintro e w1 ⟨rfl, bx⟩
    replace P := hide (And.intro (P.out.1.step bx) (P.out.2.step bx))
    replace B := hide (Below.step B.out B.out.size bx)
    clear bx
    obtain ⟨⟨p0, p1, p2⟩, q0, q1, q2⟩ := P.out
    go_wp2_with fail
    refine (GR.out _).mono ?_
    rw [HG.out]
    rintro e w2 ⟨rfl, bx0⟩
    have bx := Below.step1 bx0 (Below.drew (Below.refl w2.heap.size w2))
    replace B := hide (Below.step B.out B.out.size bx0)
    clear bx bx0
    clear GR p0 p1 p2 q0 q1 q2
    go_wp2_with fail
    go_ret
    exact ⟨rfl, B.out⟩
  · have HG := hide (decide_eq_false hg)
    have R := hide (HL.out hg)
    clear hg HL
    obtain ⟨ra, hra⟩ : ∃ r, mkRat (zi s (vl Q xsa)) (dn (vl Q ysa)) = r := ⟨_, rfl⟩
    obtain ⟨rb, hrb⟩ : ∃ r, mkRat (zi t (vl Q xsb)) (dn (vl Q ysb)) = r := ⟨_, rfl⟩
    have RAa : Hid (∀ W v, Rl W v s xsa ysa 12 → Ra W v ra 12) := hide (fun W v h => by rw [← hra]; exact h.ra)
    have RAb : Hid (∀ W v, Rl W v t xsb ysb 12 → Ra W v rb 12) := hide (fun W v h => by rw [← hrb]; exact h.ra)
    clear hra hrb
    by_cases hb0 : rb = 0
    · have HB := hide hb0
      clear hb0
      go_enter Try.func4, Try.ntmps4
      go_wp2_with fail
      refine (rspeaks_true _).mono ?_
      rintro e w1 ⟨rfl, bx⟩
      replace P := hide (And.intro (P.out.1.step bx) (P.out.2.step bx))
      replace B := hide (Below.step B.out B.out.size bx)
      replace R := hide (And.intro (R.out.1.step bx) (R.out.2.step bx))
      clear bx
      obtain ⟨⟨p0, p1, p2⟩, q0, q1, q2⟩ := P.out
      go_wp2_with fail
      refine (GR.out _).mono ?_
      rw [HG.out]
      rintro e w2 ⟨rfl, bx0⟩
      have bx := Below.step1 bx0 (Below.drew (Below.refl w2.heap.size w2))
      replace P := hide (And.intro (P.out.1.step bx) (P.out.2.step bx))
      replace R := hide (And.intro (R.out.1.step bx) (R.out.2.step bx))
      replace B := hide (Below.step B.out B.out.size bx)
      clear bx bx0
      clear GR p0 p1 p2 q0 q1 q2
      go_wp2_with fail
      refine wp_region_held_drew (S := fun W => Below w2.drew.heap.size w2.drew W) (by kernel_rfl) (Below.refl _ _) (fun hHeld => ?_)
      refine wpAnyH_with 2 #[true, true, true, true, true, true, true, true, true, false, false] (fun a W => ∃ (A1 : Option Addr) (n1 c1 : Nat) (D1 : Option Addr) (m1 d1 : Nat) (A2 : Option Addr) (n2 c2 : Nat) (D2 : Option Addr) (m2 d2 : Nat) (g0 : Nat), a = ⟨#[rv s (.slice Aa na ca) (.slice Da ma da), rv t (.slice Ab nb cb) (.slice Db mb db), .pointer (some ⟨w.heap.size, 0, none⟩), .pointer (some ⟨w.heap.size + 1, 0, none⟩), .bool false, .pointer (some ⟨g0, 0, none⟩), undef, undef, .bool true, .bool false, rv s (.slice Aa na ca) (.slice Da ma da), rv t (.slice Ab nb cb) (.slice Db mb db), .bool false, .tuple #[rv false (.slice none 0 0) (.slice none 0 0), .int .i64 3], rv s (.slice Aa na ca) (.slice Da ma da), rv s (.slice A1 n1 c1) (.slice D1 m1 d1), rv t (.slice Ab nb cb) (.slice Db mb db), rv t (.slice A2 n2 c2) (.slice D2 m2 d2), .tuple #[rv false (.slice none 0 0) (.slice none 0 0), .int .i64 3], rv false (.slice none 0 0) (.slice none 0 0), .int .i64 3, undef, undef, undef, undef, undef, undef, undef, undef, undef, undef, undef, undef, undef, undef, undef, undef, undef, undef, undef, undef, undef, undef, undef], []⟩ ∧ Sg w2.drew.heap.size w2.drew W [rblk] [some g0] (fun W => (((True ∧ Rl W (rv s (.slice A1 n1 c1) (.slice D1 m1 d1)) s xsa ysa 12) ∧ Rl W (rv t (.slice A2 n2 c2) (.slice D2 m2 d2)) t xsb ysb 12) ∧ True))) ?_ (fun Hs31 => ?_)
      · rintro a W ⟨A1, n1, c1, D1, m1, d1, A2, n2, c2, D2, m2, d2, g0, rfl, st0⟩
        have hHeld := st0.1
        have st := hide st0
        clear st0
        obtain ⟨k0, f0⟩ := Sg.cells st.out 0 g0 #[.bool false, .slice none 0 0, .slice none 0 0] 28 rfl rfl 0
        obtain ⟨k1, f1⟩ := Sg.cells st.out 0 g0 #[.bool false, .slice none 0 0, .slice none 0 0] 28 rfl rfl 1
        obtain ⟨k2, f2⟩ := Sg.cells st.out 0 g0 #[.bool false, .slice none 0 0, .slice none 0 0] 28 rfl rfl 2
        simp only [List.getElem?_toArray, List.getElem?_cons_zero, List.getElem?_cons_succ] at k0
        simp only [List.getElem?_toArray, List.getElem?_cons_zero, List.getElem?_cons_succ] at k1
        simp only [List.getElem?_toArray, List.getElem?_cons_zero, List.getElem?_cons_succ] at k2
        have st9 := st.out
        have st9 := Sg.put st9 (Firm2.and (Firm2.and (Firm2.and Firm2.yes (Firm2.rl _ _ _ _ _)) (Firm2.rl _ _ _ _ _)) Firm2.yes) 0 g0 0 _ 28 (.bool false) rfl rfl rfl
        have st9 := Sg.put st9 (Firm2.and (Firm2.and (Firm2.and Firm2.yes (Firm2.rl _ _ _ _ _)) (Firm2.rl _ _ _ _ _)) Firm2.yes) 0 g0 1 _ 28 (.slice none 0 0) rfl rfl rfl
        have st9 := Sg.put st9 (Firm2.and (Firm2.and (Firm2.and Firm2.yes (Firm2.rl _ _ _ _ _)) (Firm2.rl _ _ _ _ _)) Firm2.yes) 0 g0 2 _ 28 (.slice none 0 0) rfl rfl rfl
        have st8 := hide st9
        clear st9
        refine wpAnyH_ready (rs := [9]) (by kernel_rfl) (by simp) ?_
        refine AllReadyH.cons rfl (fun K hK => ?_) ?_
        rotate_left
        · exact AllReadyH.nil
        go_simp
        refine hK.out _ _ st8.out.1 (fun hHeld => ?_)
        clear hK K k0 f0 k1 f1 k2 f2 st
        (try simp only [Act.put, List.setIfInBounds_toArray, List.set_cons_zero, List.set_cons_succ])
        generalize (((W.setCell ⟨g0, 0, none⟩ _).setCell ⟨g0, 1, none⟩ _).setCell ⟨g0, 2, none⟩ _) = W5 at *
        have st := st8
        clear st8
        refine wpAnyH_take (i := 10) (v := ?_) rfl (by kernel_rfl) (by kernel_rfl) (by kernel_rfl) (fun _ _ _ h => h) (Or.inl ⟨?_, ?_⟩) (by assumption) ?_
        rotate_left
        · rfl
        · (intro w hSw; go_simp; try with_reducible rfl)
        (try simp only [Act.put, List.setIfInBounds_toArray, List.set_cons_zero, List.set_cons_succ])
        refine wpAnyH_done (by kernel_rfl) ?_ _
        clear hHeld
        have s9 := st.out
        have P := hide (And.intro (P.out.1.step s9.1) (And.intro (P.out.2.step s9.1) (show Fx W5 g0 false none 0 0 none 0 0 from ⟨(Sg.cells s9 0 g0 _ _ rfl rfl 0).1, (Sg.cells s9 0 g0 _ _ rfl rfl 1).1, (Sg.cells s9 0 g0 _ _ rfl rfl 2).1⟩)))
        have R : Hid (Ra W5 (rv s (.slice Aa na ca) (.slice Da ma da)) ra 12 ∧ Ra W5 (rv t (.slice Ab nb cb) (.slice Db mb db)) rb 12) := hide ⟨RAa.out _ _ (R.out.1.step s9.1), RAb.out _ _ (R.out.2.step s9.1)⟩
        have B := hide (Below.step B.out B.out.size s9.1)
        clear s9 st RAa RAb
        generalize W5 = w3 at *
        obtain ⟨-, ⟨q0, q1, q2⟩, -⟩ := P.out
        go_wp2_with fail
        refine (rof_r (L := 12) R.out.2 (by omega) (by omega)).mono ?_
        rintro e w4 ⟨v4, rfl, h4, b⟩
        obtain ⟨s6, A6, n6, c6, D6, m6, d6, rfl, h4⟩ := h4.parts
        obtain ⟨x, y⟩ := fqbox1 w4 s6 A6 n6 c6 D6 m6 d6
        have bx := Below.step1 b x
        have P := hide (And.intro (P.out.1.step bx) (And.intro (P.out.2.1.step bx) (And.intro (P.out.2.2.step bx) y)))
        have R := hide ((And.intro (R.out.1.step bx) (R.out.2.step bx)))
        have B := hide (Below.step B.out B.out.size bx)
        have SG := hide (rqsign_any (h4.step x))
        clear q0 q1 q2 bx x y b h4
        obtain ⟨-, -, -, q0, q1, q2⟩ := P.out
        go_wp2_with fail
        generalize (w4.alloc (.cells #[.bool s6, .slice A6 n6 c6, .slice D6 m6 d6] 40)) = w5 at *
        generalize w4.heap.size = g at *
        rw [HB.out, cmpR_same] at SG
        refine SG.out.mono ?_
        rintro e w6 ⟨rfl, bx0⟩
        have bx := bx0
        replace P := hide (And.intro (P.out.1.step bx) (And.intro (P.out.2.1.step bx) (And.intro (P.out.2.2.1.step bx) (P.out.2.2.2.step bx))))
        replace R := hide ((And.intro (R.out.1.step bx) (R.out.2.step bx)))
        replace B := hide (Below.step B.out B.out.size bx)
        clear q0 q1 q2 SG bx
        obtain ⟨-, -, ⟨p0, p1, p2⟩, -⟩ := P.out
        have bx0 := bx0
        go_wp2_with fail
        refine (rsame_zero _).mono ?_
        rintro e w7 ⟨rfl, bx⟩
        replace B := hide (Below.step B.out B.out.size bx)
        clear bx
        go_wp2_with fail
        go_ret
        exact ⟨rfl, B.out⟩
      refine wpAnyH_with 3 #[true, true, true, true, true, true, true, true, false, false, false] (fun a W => ∃ (A1 : Option Addr) (n1 c1 : Nat) (D1 : Option Addr) (m1 d1 : Nat) (A2 : Option Addr) (n2 c2 : Nat) (D2 : Option Addr) (m2 d2 : Nat), a = ⟨#[rv s (.slice Aa na ca) (.slice Da ma da), rv t (.slice Ab nb cb) (.slice Db mb db), .pointer (some ⟨w.heap.size, 0, none⟩), .pointer (some ⟨w.heap.size + 1, 0, none⟩), .bool false, undef, undef, undef, .bool true, .bool false, rv s (.slice Aa na ca) (.slice Da ma da), rv t (.slice Ab nb cb) (.slice Db mb db), .bool false, .tuple #[rv false (.slice none 0 0) (.slice none 0 0), .int .i64 3], rv s (.slice Aa na ca) (.slice Da ma da), rv s (.slice A1 n1 c1) (.slice D1 m1 d1), rv t (.slice Ab nb cb) (.slice Db mb db), rv t (.slice A2 n2 c2) (.slice D2 m2 d2), .tuple #[rv false (.slice none 0 0) (.slice none 0 0), .int .i64 3], rv false (.slice none 0 0) (.slice none 0 0), .int .i64 3, undef, undef, undef, undef, undef, undef, undef, undef, undef, undef, undef, undef, undef, undef, undef, undef, undef, undef, undef, undef, undef, undef, undef], []⟩ ∧ Sg w2.drew.heap.size w2.drew W [rblk] [none] (fun W => (((True ∧ Rl W (rv s (.slice A1 n1 c1) (.slice D1 m1 d1)) s xsa ysa 12) ∧ Rl W (rv t (.slice A2 n2 c2) (.slice D2 m2 d2)) t xsb ysb 12) ∧ True))) ?_ (fun Hs30 => ?_)
      · rintro a W ⟨A1, n1, c1, D1, m1, d1, A2, n2, c2, D2, m2, d2, rfl, st0⟩
        have hHeld := st0.1
        have st := hide st0
        clear st0
        refine wpAnyH_ready (rs := [8]) (by kernel_rfl) (by simp) ?_
        refine AllReadyH.cons rfl (fun K hK => ?_) ?_
        · go_simp
          have st2 := Sg.make st.out (Firm2.and (Firm2.and (Firm2.and Firm2.yes (Firm2.rl _ _ _ _ _)) (Firm2.rl _ _ _ _ _)) Firm2.yes) 0 _ rfl (by simp)
          refine hK.out _ _ st2.1 (fun hHeld => ?_)
          (try simp only [Act.put, List.setIfInBounds_toArray, List.set_cons_zero, List.set_cons_succ])
          exact Hs31.out _ _ ⟨A1, n1, c1, D1, m1, d1, A2, n2, c2, D2, m2, d2, W.heap.size, rfl, st2⟩
        exact AllReadyH.nil
      refine wpAnyH_with 6 #[true, true, true, true, false, false, false, false, true, false, false] (fun a W => ∃ (A1 : Option Addr) (n1 c1 : Nat) (D1 : Option Addr) (m1 d1 : Nat) (A2 : Option Addr) (n2 c2 : Nat) (D2 : Option Addr) (m2 d2 : Nat) (g0 : Nat), a = ⟨#[rv s (.slice Aa na ca) (.slice Da ma da), rv t (.slice Ab nb cb) (.slice Db mb db), .pointer (some ⟨w.heap.size, 0, none⟩), .pointer (some ⟨w.heap.size + 1, 0, none⟩), .bool false, .pointer (some ⟨g0, 0, none⟩), undef, undef, .bool true, .bool false, rv s (.slice Aa na ca) (.slice Da ma da), rv t (.slice Ab nb cb) (.slice Db mb db), .bool false, undef, rv s (.slice Aa na ca) (.slice Da ma da), rv s (.slice A1 n1 c1) (.slice D1 m1 d1), rv t (.slice Ab nb cb) (.slice Db mb db), rv t (.slice A2 n2 c2) (.slice D2 m2 d2), undef, undef, undef, undef, undef, undef, undef, undef, undef, undef, undef, undef, undef, undef, undef, undef, undef, undef, undef, undef, undef, undef, undef, undef, undef, undef], []⟩ ∧ Sg w2.drew.heap.size w2.drew W [rblk] [some g0] (fun W => ((True ∧ Rl W (rv s (.slice A1 n1 c1) (.slice D1 m1 d1)) s xsa ysa 12) ∧ Rl W (rv t (.slice A2 n2 c2) (.slice D2 m2 d2)) t xsb ysb 12))) ?_ (fun Hs21 => ?_)
      · rintro a W ⟨A1, n1, c1, D1, m1, d1, A2, n2, c2, D2, m2, d2, g0, rfl, st0⟩
        have hHeld := st0.1
        have st := hide st0
        clear st0
        refine wpAnyH_ready (rs := [4]) (by kernel_rfl) (by simp) ?_
        refine AllReadyH.cons rfl (fun K hK => ?_) ?_
        · go_simp
          go_at_call 23
          refine Calls.mono (div_zero (L := 12) (RAa.out _ _ st.out.2.2.1.1.2) (RAb.out _ _ st.out.2.2.1.2) HB.out (by omega) (by omega)) ?_
          rintro e wx ⟨rfl, bx⟩
          have tx := True.intro
          try dsimp only
          have st2 := Sg.call (G := fun W => True) st.out bx (Firm2.and (Firm2.and Firm2.yes (Firm2.rl _ _ _ _ _)) (Firm2.rl _ _ _ _ _)) tx
          have hSt := hide st2
          refine hK.out _ _ st2.1 (fun hHeld => ?_)
          clear hK K st2
          (try simp only [Act.put, List.setIfInBounds_toArray, List.set_cons_zero, List.set_cons_succ])
          refine wpAnyH_take (i := 5) (v := ?_) rfl (by kernel_rfl) (by kernel_rfl) (by kernel_rfl) (fun _ _ _ h => h) (Or.inl ⟨?_, ?_⟩) (by assumption) ?_
          rotate_left
          · rfl
          · (intro w hSw; go_simp; try with_reducible rfl)
          (try simp only [Act.put, List.setIfInBounds_toArray, List.set_cons_zero, List.set_cons_succ])
          refine wpAnyH_take (i := 6) (v := ?_) rfl (by kernel_rfl) (by kernel_rfl) (by kernel_rfl) (fun _ _ _ h => h) (Or.inl ⟨?_, ?_⟩) (by assumption) ?_
          rotate_left
          · rfl
          · (intro w hSw; go_simp; try with_reducible rfl)
          (try simp only [Act.put, List.setIfInBounds_toArray, List.set_cons_zero, List.set_cons_succ])
          refine wpAnyH_take (i := 7) (v := ?_) rfl (by kernel_rfl) (by kernel_rfl) (by kernel_rfl) (fun _ _ _ h => h) (Or.inl ⟨?_, ?_⟩) (by assumption) ?_
          rotate_left
          · rfl
          · (intro w hSw; go_simp; try with_reducible rfl)
          (try simp only [Act.put, List.setIfInBounds_toArray, List.set_cons_zero, List.set_cons_succ])
          exact Hs31.out _ _ ⟨A1, n1, c1, D1, m1, d1, A2, n2, c2, D2, m2, d2, g0, rfl, hSt.out⟩
        exact AllReadyH.nil
      refine wpAnyH_with 7 #[true, true, true, true, false, false, false, false, false, false, false] (fun a W => ∃ (A1 : Option Addr) (n1 c1 : Nat) (D1 : Option Addr) (m1 d1 : Nat) (A2 : Option Addr) (n2 c2 : Nat) (D2 : Option Addr) (m2 d2 : Nat), a = ⟨#[rv s (.slice Aa na ca) (.slice Da ma da), rv t (.slice Ab nb cb) (.slice Db mb db), .pointer (some ⟨w.heap.size, 0, none⟩), .pointer (some ⟨w.heap.size + 1, 0, none⟩), .bool false, undef, undef, undef, .bool true, .bool false, rv s (.slice Aa na ca) (.slice Da ma da), rv t (.slice Ab nb cb) (.slice Db mb db), .bool false, undef, rv s (.slice Aa na ca) (.slice Da ma da), rv s (.slice A1 n1 c1) (.slice D1 m1 d1), rv t (.slice Ab nb cb) (.slice Db mb db), rv t (.slice A2 n2 c2) (.slice D2 m2 d2), undef, undef, undef, undef, undef, undef, undef, undef, undef, undef, undef, undef, undef, undef, undef, undef, undef, undef, undef, undef, undef, undef, undef, undef, undef, undef], []⟩ ∧ Sg w2.drew.heap.size w2.drew W [rblk] [none] (fun W => ((True ∧ Rl W (rv s (.slice A1 n1 c1) (.slice D1 m1 d1)) s xsa ysa 12) ∧ Rl W (rv t (.slice A2 n2 c2) (.slice D2 m2 d2)) t xsb ysb 12))) ?_ (fun Hs20 => ?_)
      · rintro a W ⟨A1, n1, c1, D1, m1, d1, A2, n2, c2, D2, m2, d2, rfl, st0⟩
        have hHeld := st0.1
        have st := hide st0
        clear st0
        refine wpAnyH_ready (rs := [4, 8]) (by kernel_rfl) (by simp) ?_
        refine AllReadyH.cons rfl (fun K hK => ?_) ?_
        · go_simp
          go_at_call 23
          refine Calls.mono (div_zero (L := 12) (RAa.out _ _ st.out.2.2.1.1.2) (RAb.out _ _ st.out.2.2.1.2) HB.out (by omega) (by omega)) ?_
          rintro e wx ⟨rfl, bx⟩
          have tx := True.intro
          try dsimp only
          have st2 := Sg.call (G := fun W => True) st.out bx (Firm2.and (Firm2.and Firm2.yes (Firm2.rl _ _ _ _ _)) (Firm2.rl _ _ _ _ _)) tx
          have hSt := hide st2
          refine hK.out _ _ st2.1 (fun hHeld => ?_)
          clear hK K st2
          (try simp only [Act.put, List.setIfInBounds_toArray, List.set_cons_zero, List.set_cons_succ])
          refine wpAnyH_take (i := 5) (v := ?_) rfl (by kernel_rfl) (by kernel_rfl) (by kernel_rfl) (fun _ _ _ h => h) (Or.inl ⟨?_, ?_⟩) (by assumption) ?_
          rotate_left
          · rfl
          · (intro w hSw; go_simp; try with_reducible rfl)
          (try simp only [Act.put, List.setIfInBounds_toArray, List.set_cons_zero, List.set_cons_succ])
          refine wpAnyH_take (i := 6) (v := ?_) rfl (by kernel_rfl) (by kernel_rfl) (by kernel_rfl) (fun _ _ _ h => h) (Or.inl ⟨?_, ?_⟩) (by assumption) ?_
          rotate_left
          · rfl
          · (intro w hSw; go_simp; try with_reducible rfl)
          (try simp only [Act.put, List.setIfInBounds_toArray, List.set_cons_zero, List.set_cons_succ])
          refine wpAnyH_take (i := 7) (v := ?_) rfl (by kernel_rfl) (by kernel_rfl) (by kernel_rfl) (fun _ _ _ h => h) (Or.inl ⟨?_, ?_⟩) (by assumption) ?_
          rotate_left
          · rfl
          · (intro w hSw; go_simp; try with_reducible rfl)
          (try simp only [Act.put, List.setIfInBounds_toArray, List.set_cons_zero, List.set_cons_succ])
          exact Hs30.out _ _ ⟨A1, n1, c1, D1, m1, d1, A2, n2, c2, D2, m2, d2, rfl, hSt.out⟩
        refine AllReadyH.cons rfl (fun K hK => ?_) ?_
        · go_simp
          have st2 := Sg.make st.out (Firm2.and (Firm2.and Firm2.yes (Firm2.rl _ _ _ _ _)) (Firm2.rl _ _ _ _ _)) 0 _ rfl (by simp)
          refine hK.out _ _ st2.1 (fun hHeld => ?_)
          (try simp only [Act.put, List.setIfInBounds_toArray, List.set_cons_zero, List.set_cons_succ])
          exact Hs21.out _ _ ⟨A1, n1, c1, D1, m1, d1, A2, n2, c2, D2, m2, d2, W.heap.size, rfl, st2⟩
        exact AllReadyH.nil
      refine wpAnyH_with 7 #[true, true, true, false, false, false, false, false, true, false, false] (fun a W => ∃ (A1 : Option Addr) (n1 c1 : Nat) (D1 : Option Addr) (m1 d1 : Nat) (g0 : Nat), a = ⟨#[rv s (.slice Aa na ca) (.slice Da ma da), rv t (.slice Ab nb cb) (.slice Db mb db), .pointer (some ⟨w.heap.size, 0, none⟩), .pointer (some ⟨w.heap.size + 1, 0, none⟩), .bool false, .pointer (some ⟨g0, 0, none⟩), undef, undef, .bool true, .bool false, rv s (.slice Aa na ca) (.slice Da ma da), rv t (.slice Ab nb cb) (.slice Db mb db), .bool false, undef, rv s (.slice Aa na ca) (.slice Da ma da), rv s (.slice A1 n1 c1) (.slice D1 m1 d1), rv t (.slice Ab nb cb) (.slice Db mb db), undef, undef, undef, undef, undef, undef, undef, undef, undef, undef, undef, undef, undef, undef, undef, undef, undef, undef, undef, undef, undef, undef, undef, undef, undef, undef, undef], []⟩ ∧ Sg w2.drew.heap.size w2.drew W [rblk] [some g0] (fun W => (True ∧ Rl W (rv s (.slice A1 n1 c1) (.slice D1 m1 d1)) s xsa ysa 12))) ?_ (fun Hs11 => ?_)
      · rintro a W ⟨A1, n1, c1, D1, m1, d1, g0, rfl, st0⟩
        have hHeld := st0.1
        have st := hide st0
        clear st0
        refine wpAnyH_ready (rs := [3]) (by kernel_rfl) (by simp) ?_
        refine AllReadyH.cons rfl (fun K hK => ?_) ?_
        · go_simp
          go_at_call 24
          refine Calls.mono (rcopy_l (L := 12) (R.out.2.step st.out.1) (by omega)) ?_
          rintro e wx ⟨v9, rfl, hq, bx⟩
          obtain ⟨A2, n2, c2, D2, m2, d2, rfl, -, -, tx⟩ := hq.parts
          clear hq
          try dsimp only
          have st2 := Sg.call (G := fun W => Rl W (rv t (.slice A2 n2 c2) (.slice D2 m2 d2)) t xsb ysb 12) st.out bx (Firm2.and Firm2.yes (Firm2.rl _ _ _ _ _)) tx
          have hSt := hide st2
          refine hK.out _ _ st2.1 (fun hHeld => ?_)
          clear hK K st2
          (try simp only [Act.put, List.setIfInBounds_toArray, List.set_cons_zero, List.set_cons_succ])
          exact Hs21.out _ _ ⟨A1, n1, c1, D1, m1, d1, A2, n2, c2, D2, m2, d2, g0, rfl, hSt.out⟩
        exact AllReadyH.nil
      refine wpAnyH_with 8 #[true, true, true, false, false, false, false, false, false, false, false] (fun a W => ∃ (A1 : Option Addr) (n1 c1 : Nat) (D1 : Option Addr) (m1 d1 : Nat), a = ⟨#[rv s (.slice Aa na ca) (.slice Da ma da), rv t (.slice Ab nb cb) (.slice Db mb db), .pointer (some ⟨w.heap.size, 0, none⟩), .pointer (some ⟨w.heap.size + 1, 0, none⟩), .bool false, undef, undef, undef, .bool true, .bool false, rv s (.slice Aa na ca) (.slice Da ma da), rv t (.slice Ab nb cb) (.slice Db mb db), .bool false, undef, rv s (.slice Aa na ca) (.slice Da ma da), rv s (.slice A1 n1 c1) (.slice D1 m1 d1), rv t (.slice Ab nb cb) (.slice Db mb db), undef, undef, undef, undef, undef, undef, undef, undef, undef, undef, undef, undef, undef, undef, undef, undef, undef, undef, undef, undef, undef, undef, undef, undef, undef, undef, undef], []⟩ ∧ Sg w2.drew.heap.size w2.drew W [rblk] [none] (fun W => (True ∧ Rl W (rv s (.slice A1 n1 c1) (.slice D1 m1 d1)) s xsa ysa 12))) ?_ (fun Hs10 => ?_)
      · rintro a W ⟨A1, n1, c1, D1, m1, d1, rfl, st0⟩
        have hHeld := st0.1
        have st := hide st0
        clear st0
        refine wpAnyH_ready (rs := [3, 8]) (by kernel_rfl) (by simp) ?_
        refine AllReadyH.cons rfl (fun K hK => ?_) ?_
        · go_simp
          go_at_call 24
          refine Calls.mono (rcopy_l (L := 12) (R.out.2.step st.out.1) (by omega)) ?_
          rintro e wx ⟨v9, rfl, hq, bx⟩
          obtain ⟨A2, n2, c2, D2, m2, d2, rfl, -, -, tx⟩ := hq.parts
          clear hq
          try dsimp only
          have st2 := Sg.call (G := fun W => Rl W (rv t (.slice A2 n2 c2) (.slice D2 m2 d2)) t xsb ysb 12) st.out bx (Firm2.and Firm2.yes (Firm2.rl _ _ _ _ _)) tx
          have hSt := hide st2
          refine hK.out _ _ st2.1 (fun hHeld => ?_)
          clear hK K st2
          (try simp only [Act.put, List.setIfInBounds_toArray, List.set_cons_zero, List.set_cons_succ])
          exact Hs20.out _ _ ⟨A1, n1, c1, D1, m1, d1, A2, n2, c2, D2, m2, d2, rfl, hSt.out⟩
        refine AllReadyH.cons rfl (fun K hK => ?_) ?_
        · go_simp
          have st2 := Sg.make st.out (Firm2.and Firm2.yes (Firm2.rl _ _ _ _ _)) 0 _ rfl (by simp)
          refine hK.out _ _ st2.1 (fun hHeld => ?_)
          (try simp only [Act.put, List.setIfInBounds_toArray, List.set_cons_zero, List.set_cons_succ])
          exact Hs11.out _ _ ⟨A1, n1, c1, D1, m1, d1, W.heap.size, rfl, st2⟩
        exact AllReadyH.nil
      refine wpAnyH_with 8 #[true, false, true, false, false, false, false, false, true, false, false] (fun a W => ∃ (g0 : Nat), a = ⟨#[rv s (.slice Aa na ca) (.slice Da ma da), rv t (.slice Ab nb cb) (.slice Db mb db), .pointer (some ⟨w.heap.size, 0, none⟩), .pointer (some ⟨w.heap.size + 1, 0, none⟩), .bool false, .pointer (some ⟨g0, 0, none⟩), undef, undef, .bool true, .bool false, rv s (.slice Aa na ca) (.slice Da ma da), rv t (.slice Ab nb cb) (.slice Db mb db), .bool false, undef, rv s (.slice Aa na ca) (.slice Da ma da), undef, rv t (.slice Ab nb cb) (.slice Db mb db), undef, undef, undef, undef, undef, undef, undef, undef, undef, undef, undef, undef, undef, undef, undef, undef, undef, undef, undef, undef, undef, undef, undef, undef, undef, undef, undef], []⟩ ∧ Sg w2.drew.heap.size w2.drew W [rblk] [some g0] (fun W => True)) ?_ (fun Hs01 => ?_)
      · rintro a W ⟨g0, rfl, st0⟩
        have hHeld := st0.1
        have st := hide st0
        clear st0
        refine wpAnyH_ready (rs := [1]) (by kernel_rfl) (by simp) ?_
        refine AllReadyH.cons rfl (fun K hK => ?_) ?_
        · go_simp
          go_at_call 24
          refine Calls.mono (rcopy_l (L := 12) (R.out.1.step st.out.1) (by omega)) ?_
          rintro e wx ⟨v9, rfl, hq, bx⟩
          obtain ⟨A1, n1, c1, D1, m1, d1, rfl, -, -, tx⟩ := hq.parts
          clear hq
          try dsimp only
          have st2 := Sg.call (G := fun W => Rl W (rv s (.slice A1 n1 c1) (.slice D1 m1 d1)) s xsa ysa 12) st.out bx Firm2.yes tx
          have hSt := hide st2
          refine hK.out _ _ st2.1 (fun hHeld => ?_)
          clear hK K st2
          (try simp only [Act.put, List.setIfInBounds_toArray, List.set_cons_zero, List.set_cons_succ])
          exact Hs11.out _ _ ⟨A1, n1, c1, D1, m1, d1, g0, rfl, hSt.out⟩
        exact AllReadyH.nil
      refine wpAnyH_take (i := 0) (v := ?_) rfl (by kernel_rfl) (by kernel_rfl) (by kernel_rfl) (fun _ _ _ h => h) (Or.inl ⟨?_, ?_⟩) (by assumption) ?_
      rotate_left
      · rfl
      · (intro w hSw; have e0 := cell_keep P.out.1.1 hSw; have e1 := cell_keep P.out.1.2.1 hSw; have e2 := cell_keep P.out.1.2.2 hSw; go_simp; try with_reducible rfl)
      (try simp only [Act.put, List.setIfInBounds_toArray, List.set_cons_zero, List.set_cons_succ])
      refine wpAnyH_take (i := 2) (v := ?_) rfl (by kernel_rfl) (by kernel_rfl) (by kernel_rfl) (fun _ _ _ h => h) (Or.inl ⟨?_, ?_⟩) (by assumption) ?_
      rotate_left
      · rfl
      · (intro w hSw; have e0 := cell_keep P.out.2.1 hSw; have e1 := cell_keep P.out.2.2.1 hSw; have e2 := cell_keep P.out.2.2.2 hSw; go_simp; try with_reducible rfl)
      (try simp only [Act.put, List.setIfInBounds_toArray, List.set_cons_zero, List.set_cons_succ])
      refine wpAnyH_with 9 #[true, false, true, false, false, false, false, false, false, false, false] (fun a W => a = ⟨#[rv s (.slice Aa na ca) (.slice Da ma da), rv t (.slice Ab nb cb) (.slice Db mb db), .pointer (some ⟨w.heap.size, 0, none⟩), .pointer (some ⟨w.heap.size + 1, 0, none⟩), .bool false, undef, undef, undef, .bool true, .bool false, rv s (.slice Aa na ca) (.slice Da ma da), rv t (.slice Ab nb cb) (.slice Db mb db), .bool false, undef, rv s (.slice Aa na ca) (.slice Da ma da), undef, rv t (.slice Ab nb cb) (.slice Db mb db), undef, undef, undef, undef, undef, undef, undef, undef, undef, undef, undef, undef, undef, undef, undef, undef, undef, undef, undef, undef, undef, undef, undef, undef, undef, undef, undef], []⟩ ∧ Sg w2.drew.heap.size w2.drew W [rblk] [none] (fun W => True)) ?_ (fun Hs => Hs.out _ _ ⟨rfl, Sg.start _ _ 1⟩)
      rintro a W ⟨rfl, st0⟩
      have hHeld := st0.1
      have st := hide st0
      clear st0
      refine wpAnyH_ready (rs := [1, 8]) (by kernel_rfl) (by simp) ?_
      refine AllReadyH.cons rfl (fun K hK => ?_) ?_
      · go_simp
        go_at_call 24
        refine Calls.mono (rcopy_l (L := 12) (R.out.1.step st.out.1) (by omega)) ?_
        rintro e wx ⟨v9, rfl, hq, bx⟩
        obtain ⟨A1, n1, c1, D1, m1, d1, rfl, -, -, tx⟩ := hq.parts
        clear hq
        try dsimp only
        have st2 := Sg.call (G := fun W => Rl W (rv s (.slice A1 n1 c1) (.slice D1 m1 d1)) s xsa ysa 12) st.out bx Firm2.yes tx
        have hSt := hide st2
        refine hK.out _ _ st2.1 (fun hHeld => ?_)
        clear hK K st2
        (try simp only [Act.put, List.setIfInBounds_toArray, List.set_cons_zero, List.set_cons_succ])
        exact Hs10.out _ _ ⟨A1, n1, c1, D1, m1, d1, rfl, hSt.out⟩
      refine AllReadyH.cons rfl (fun K hK => ?_) ?_
      · go_simp
        have st2 := Sg.make st.out Firm2.yes 0 _ rfl (by simp)
        refine hK.out _ _ st2.1 (fun hHeld => ?_)
        (try simp only [Act.put, List.setIfInBounds_toArray, List.set_cons_zero, List.set_cons_succ])
        exact Hs01.out _ _ ⟨W.heap.size, rfl, st2⟩
      exact AllReadyH.nil
    · have HB := hide hb0
      clear hb0
      go_enter Try.func4, Try.ntmps4
      go_wp2_with fail
      refine (rspeaks_true _).mono ?_
      rintro e w1 ⟨rfl, bx⟩
      replace P := hide (And.intro (P.out.1.step bx) (P.out.2.step bx))
      replace B := hide (Below.step B.out B.out.size bx)
      replace R := hide (And.intro (R.out.1.step bx) (R.out.2.step bx))
      clear bx
      obtain ⟨⟨p0, p1, p2⟩, q0, q1, q2⟩ := P.out
      go_wp2_with fail
      refine (GR.out _).mono ?_
      rw [HG.out]
      rintro e w2 ⟨rfl, bx0⟩
      have bx := Below.step1 bx0 (Below.drew (Below.refl w2.heap.size w2))
      replace P := hide (And.intro (P.out.1.step bx) (P.out.2.step bx))
      replace R := hide (And.intro (R.out.1.step bx) (R.out.2.step bx))
      replace B := hide (Below.step B.out B.out.size bx)
      clear bx bx0
      clear GR p0 p1 p2 q0 q1 q2
      go_wp2_with fail
      refine wp_region_held_drew (S := fun W => Below w2.drew.heap.size w2.drew W) (by kernel_rfl) (Below.refl _ _) (fun hHeld => ?_)
      refine wpAnyH_with 2 #[true, true, true, true, true, true, true, true, true, false, false] (fun a W => ∃ (A1 : Option Addr) (n1 c1 : Nat) (D1 : Option Addr) (m1 d1 : Nat) (A2 : Option Addr) (n2 c2 : Nat) (D2 : Option Addr) (m2 d2 : Nat) (s3 : Bool) (A3 : Option Addr) (n3 c3 : Nat) (D3 : Option Addr) (m3 d3 : Nat) (g0 : Nat), a = ⟨#[rv s (.slice Aa na ca) (.slice Da ma da), rv t (.slice Ab nb cb) (.slice Db mb db), .pointer (some ⟨w.heap.size, 0, none⟩), .pointer (some ⟨w.heap.size + 1, 0, none⟩), .bool false, .pointer (some ⟨g0, 0, none⟩), undef, undef, .bool true, .bool false, rv s (.slice Aa na ca) (.slice Da ma da), rv t (.slice Ab nb cb) (.slice Db mb db), .bool false, .tuple #[rv s3 (.slice A3 n3 c3) (.slice D3 m3 d3), .int .i64 0], rv s (.slice Aa na ca) (.slice Da ma da), rv s (.slice A1 n1 c1) (.slice D1 m1 d1), rv t (.slice Ab nb cb) (.slice Db mb db), rv t (.slice A2 n2 c2) (.slice D2 m2 d2), .tuple #[rv s3 (.slice A3 n3 c3) (.slice D3 m3 d3), .int .i64 0], rv s3 (.slice A3 n3 c3) (.slice D3 m3 d3), .int .i64 0, undef, undef, undef, undef, undef, undef, undef, undef, undef, undef, undef, undef, undef, undef, undef, undef, undef, undef, undef, undef, undef, undef, undef], []⟩ ∧ Sg w2.drew.heap.size w2.drew W [rblk] [some g0] (fun W => (((True ∧ Rl W (rv s (.slice A1 n1 c1) (.slice D1 m1 d1)) s xsa ysa 12) ∧ Rl W (rv t (.slice A2 n2 c2) (.slice D2 m2 d2)) t xsb ysb 12) ∧ Rc W (rv s3 (.slice A3 n3 c3) (.slice D3 m3 d3)) (ra / rb) (2 * 12)))) ?_ (fun Hs31 => ?_)
      · rintro a W ⟨A1, n1, c1, D1, m1, d1, A2, n2, c2, D2, m2, d2, s3, A3, n3, c3, D3, m3, d3, g0, rfl, st0⟩
        have hHeld := st0.1
        have st := hide st0
        clear st0
        obtain ⟨k0, f0⟩ := Sg.cells st.out 0 g0 #[.bool false, .slice none 0 0, .slice none 0 0] 28 rfl rfl 0
        obtain ⟨k1, f1⟩ := Sg.cells st.out 0 g0 #[.bool false, .slice none 0 0, .slice none 0 0] 28 rfl rfl 1
        obtain ⟨k2, f2⟩ := Sg.cells st.out 0 g0 #[.bool false, .slice none 0 0, .slice none 0 0] 28 rfl rfl 2
        simp only [List.getElem?_toArray, List.getElem?_cons_zero, List.getElem?_cons_succ] at k0
        simp only [List.getElem?_toArray, List.getElem?_cons_zero, List.getElem?_cons_succ] at k1
        simp only [List.getElem?_toArray, List.getElem?_cons_zero, List.getElem?_cons_succ] at k2
        have st9 := st.out
        have st9 := Sg.put st9 (Firm2.and (Firm2.and (Firm2.and Firm2.yes (Firm2.rl _ _ _ _ _)) (Firm2.rl _ _ _ _ _)) (Firm2.rc _ _ _)) 0 g0 0 _ 28 (.bool s3) rfl rfl rfl
        have st9 := Sg.put st9 (Firm2.and (Firm2.and (Firm2.and Firm2.yes (Firm2.rl _ _ _ _ _)) (Firm2.rl _ _ _ _ _)) (Firm2.rc _ _ _)) 0 g0 1 _ 28 (.slice A3 n3 c3) rfl rfl rfl
        have st9 := Sg.put st9 (Firm2.and (Firm2.and (Firm2.and Firm2.yes (Firm2.rl _ _ _ _ _)) (Firm2.rl _ _ _ _ _)) (Firm2.rc _ _ _)) 0 g0 2 _ 28 (.slice D3 m3 d3) rfl rfl rfl
        have st8 := hide st9
        clear st9
        refine wpAnyH_ready (rs := [9]) (by kernel_rfl) (by simp) ?_
        refine AllReadyH.cons rfl (fun K hK => ?_) ?_
        rotate_left
        · exact AllReadyH.nil
        go_simp
        refine hK.out _ _ st8.out.1 (fun hHeld => ?_)
        clear hK K k0 f0 k1 f1 k2 f2 st
        (try simp only [Act.put, List.setIfInBounds_toArray, List.set_cons_zero, List.set_cons_succ])
        generalize (((W.setCell ⟨g0, 0, none⟩ _).setCell ⟨g0, 1, none⟩ _).setCell ⟨g0, 2, none⟩ _) = W5 at *
        have st := st8
        clear st8
        refine wpAnyH_take (i := 10) (v := ?_) rfl (by kernel_rfl) (by kernel_rfl) (by kernel_rfl) (fun _ _ _ h => h) (Or.inl ⟨?_, ?_⟩) (by assumption) ?_
        rotate_left
        · rfl
        · (intro w hSw; go_simp; try with_reducible rfl)
        (try simp only [Act.put, List.setIfInBounds_toArray, List.set_cons_zero, List.set_cons_succ])
        refine wpAnyH_done (by kernel_rfl) ?_ _
        clear hHeld
        have s9 := st.out
        have P := hide (And.intro (P.out.1.step s9.1) (And.intro (P.out.2.step s9.1) (show Fx W5 g0 s3 A3 n3 c3 D3 m3 d3 from ⟨(Sg.cells s9 0 g0 _ _ rfl rfl 0).1, (Sg.cells s9 0 g0 _ _ rfl rfl 1).1, (Sg.cells s9 0 g0 _ _ rfl rfl 2).1⟩)))
        have R : Hid (Ra W5 (rv s (.slice Aa na ca) (.slice Da ma da)) ra 12 ∧ Ra W5 (rv t (.slice Ab nb cb) (.slice Db mb db)) rb 12 ∧ Rc W5 (rv s3 (.slice A3 n3 c3) (.slice D3 m3 d3)) (ra / rb) (2 * 12)) := hide ⟨RAa.out _ _ (R.out.1.step s9.1), RAb.out _ _ (R.out.2.step s9.1), s9.2.2.1.2⟩
        have B := hide (Below.step B.out B.out.size s9.1)
        clear s9 st RAa RAb
        generalize W5 = w3 at *
        obtain ⟨-, ⟨q0, q1, q2⟩, -⟩ := P.out
        go_wp2_with fail
        refine (rof_r (L := 12) R.out.2.1 (by omega) (by omega)).mono ?_
        rintro e w4 ⟨v4, rfl, h4, b⟩
        obtain ⟨s6, A6, n6, c6, D6, m6, d6, rfl, h4⟩ := h4.parts
        obtain ⟨x, y⟩ := fqbox1 w4 s6 A6 n6 c6 D6 m6 d6
        have bx := Below.step1 b x
        have P := hide (And.intro (P.out.1.step bx) (And.intro (P.out.2.1.step bx) (And.intro (P.out.2.2.step bx) y)))
        have R := hide ((And.intro (R.out.1.step bx) (And.intro (R.out.2.1.step bx) (And.intro (R.out.2.2.step bx) (h4.step x)))))
        have B := hide (Below.step B.out B.out.size bx)
        have SG := hide (rqsign_any (h4.step x))
        clear q0 q1 q2 bx x y b h4
        obtain ⟨-, -, -, q0, q1, q2⟩ := P.out
        go_wp2_with fail
        generalize (w4.alloc (.cells #[.bool s6, .slice A6 n6 c6, .slice D6 m6 d6] 40)) = w5 at *
        generalize w4.heap.size = g at *
        have t0 := cmpR_zero HB.out
        obtain ⟨oz, hoz⟩ : ∃ oz, Hid (cmpR rb 0 = oz) := ⟨_, hide rfl⟩
        rw [hoz.out] at t0 SG
        refine SG.out.mono ?_
        rintro e w6 ⟨rfl, bx0⟩
        have bx := Below.step1 bx0 (Below.drew (Below.refl w6.heap.size w6))
        replace P := hide (And.intro (P.out.1.step bx) (And.intro (P.out.2.1.step bx) (And.intro (P.out.2.2.1.step bx) (P.out.2.2.2.step bx))))
        replace R := hide (And.intro (R.out.1.step bx) (And.intro (R.out.2.1.step bx) (And.intro (R.out.2.2.1.step bx) (R.out.2.2.2.step bx))))
        replace B := hide (Below.step B.out B.out.size bx)
        clear q0 q1 q2 SG bx
        go_wp2_with fail
        go_region_held3 (fun W => (W.cell? ⟨w.heap.size, 0, none⟩ = some (.bool s) ∧ W.cell? ⟨w.heap.size, 1, none⟩ = some (.slice Aa na ca) ∧ W.cell? ⟨w.heap.size, 2, none⟩ = some (.slice Da ma da)) ∧ (W.cell? ⟨w.heap.size + 1, 0, none⟩ = some (.bool t) ∧ W.cell? ⟨w.heap.size + 1, 1, none⟩ = some (.slice Ab nb cb) ∧ W.cell? ⟨w.heap.size + 1, 2, none⟩ = some (.slice Db mb db)) ∧ (W.cell? ⟨g0, 0, none⟩ = some (.bool s3) ∧ W.cell? ⟨g0, 1, none⟩ = some (.slice A3 n3 c3) ∧ W.cell? ⟨g0, 2, none⟩ = some (.slice D3 m3 d3)) ∧ (W.cell? ⟨g, 0, none⟩ = some (.bool s6) ∧ W.cell? ⟨g, 1, none⟩ = some (.slice A6 n6 c6) ∧ W.cell? ⟨g, 2, none⟩ = some (.slice D6 m6 d6)))
          (exact P.out)
          (first
            | (go_at_call 25; refine Calls.mono (rof_r (r := ra) (L := 12) ?_ (by omega) (by omega)) ?_; (focus ((with_reducible exact R.out.1); done)); rintro e wx ⟨vx, rfl, tx, bx⟩; replace P := hide (And.intro (P.out.1.step bx) (And.intro (P.out.2.1.step bx) (And.intro (P.out.2.2.1.step bx) (P.out.2.2.2.step bx)))); replace R := hide (And.intro (R.out.1.step bx) (And.intro (R.out.2.1.step bx) (And.intro (R.out.2.2.1.step bx) (R.out.2.2.2.step bx)))); replace B := hide (Below.step B.out B.out.size bx))
            | (go_at_call 27; refine Calls.mono (rqdiv_any (r1 := ra) (r2 := rb) (L := 5 * 12) ?_ ?_ HB.out (by omega) (by omega)) ?_; (focus ((repeat (first | (with_reducible assumption) | (with_reducible refine Rf.step ?_ (by with_reducible assumption)))); done)); (focus ((with_reducible exact R.out.2.2.2); done)); rintro e wx ⟨vx, rfl, tx, bx⟩; replace P := hide (And.intro (P.out.1.step bx) (And.intro (P.out.2.1.step bx) (And.intro (P.out.2.2.1.step bx) (P.out.2.2.2.step bx)))); replace R := hide (And.intro (R.out.1.step bx) (And.intro (R.out.2.1.step bx) (And.intro (R.out.2.2.1.step bx) (R.out.2.2.2.step bx)))); replace B := hide (Below.step B.out B.out.size bx))
            | (go_at_call 16; refine Calls.mono (rfto_any (r := ra / rb) (L := 5 * 12 + 5 * 12) ?_ (by omega)) ?_; (focus ((repeat (first | (with_reducible assumption) | (with_reducible refine Rf.step ?_ (by with_reducible assumption)))); done)); rintro e wx ⟨vx, rfl, tx, bx⟩; replace P := hide (And.intro (P.out.1.step bx) (And.intro (P.out.2.1.step bx) (And.intro (P.out.2.2.1.step bx) (P.out.2.2.2.step bx)))); replace R := hide (And.intro (R.out.1.step bx) (And.intro (R.out.2.1.step bx) (And.intro (R.out.2.2.1.step bx) (R.out.2.2.2.step bx)))); replace B := hide (Below.step B.out B.out.size bx))
            | (go_at_call 15; refine Calls.mono (rsame_c (r := ra / rb) (L := 2 * 12) (M := 5 * 12 + 5 * 12) ?_ ?_) ?_; (focus ((repeat (first | (with_reducible assumption) | (with_reducible exact R.out.2.2.1) | (with_reducible refine Rc.step ?_ (by with_reducible assumption)))); done)); (focus ((repeat (first | (with_reducible assumption) | (with_reducible exact R.out.2.2.1) | (with_reducible refine Rc.step ?_ (by with_reducible assumption)))); done)); rintro e wx ⟨rfl, bx⟩; replace P := hide (And.intro (P.out.1.step bx) (And.intro (P.out.2.1.step bx) (And.intro (P.out.2.2.1.step bx) (P.out.2.2.2.step bx)))); replace R := hide (And.intro (R.out.1.step bx) (And.intro (R.out.2.1.step bx) (And.intro (R.out.2.2.1.step bx) (R.out.2.2.2.step bx)))); replace B := hide (Below.step B.out B.out.size bx)))
        all_goals
          go_wp2_with fail
          go_ret
          exact ⟨rfl, B.out⟩
      refine wpAnyH_with 3 #[true, true, true, true, true, true, true, true, false, false, false] (fun a W => ∃ (A1 : Option Addr) (n1 c1 : Nat) (D1 : Option Addr) (m1 d1 : Nat) (A2 : Option Addr) (n2 c2 : Nat) (D2 : Option Addr) (m2 d2 : Nat) (s3 : Bool) (A3 : Option Addr) (n3 c3 : Nat) (D3 : Option Addr) (m3 d3 : Nat), a = ⟨#[rv s (.slice Aa na ca) (.slice Da ma da), rv t (.slice Ab nb cb) (.slice Db mb db), .pointer (some ⟨w.heap.size, 0, none⟩), .pointer (some ⟨w.heap.size + 1, 0, none⟩), .bool false, undef, undef, undef, .bool true, .bool false, rv s (.slice Aa na ca) (.slice Da ma da), rv t (.slice Ab nb cb) (.slice Db mb db), .bool false, .tuple #[rv s3 (.slice A3 n3 c3) (.slice D3 m3 d3), .int .i64 0], rv s (.slice Aa na ca) (.slice Da ma da), rv s (.slice A1 n1 c1) (.slice D1 m1 d1), rv t (.slice Ab nb cb) (.slice Db mb db), rv t (.slice A2 n2 c2) (.slice D2 m2 d2), .tuple #[rv s3 (.slice A3 n3 c3) (.slice D3 m3 d3), .int .i64 0], rv s3 (.slice A3 n3 c3) (.slice D3 m3 d3), .int .i64 0, undef, undef, undef, undef, undef, undef, undef, undef, undef, undef, undef, undef, undef, undef, undef, undef, undef, undef, undef, undef, undef, undef, undef], []⟩ ∧ Sg w2.drew.heap.size w2.drew W [rblk] [none] (fun W => (((True ∧ Rl W (rv s (.slice A1 n1 c1) (.slice D1 m1 d1)) s xsa ysa 12) ∧ Rl W (rv t (.slice A2 n2 c2) (.slice D2 m2 d2)) t xsb ysb 12) ∧ Rc W (rv s3 (.slice A3 n3 c3) (.slice D3 m3 d3)) (ra / rb) (2 * 12)))) ?_ (fun Hs30 => ?_)
      · rintro a W ⟨A1, n1, c1, D1, m1, d1, A2, n2, c2, D2, m2, d2, s3, A3, n3, c3, D3, m3, d3, rfl, st0⟩
        have hHeld := st0.1
        have st := hide st0
        clear st0
        refine wpAnyH_ready (rs := [8]) (by kernel_rfl) (by simp) ?_
        refine AllReadyH.cons rfl (fun K hK => ?_) ?_
        · go_simp
          have st2 := Sg.make st.out (Firm2.and (Firm2.and (Firm2.and Firm2.yes (Firm2.rl _ _ _ _ _)) (Firm2.rl _ _ _ _ _)) (Firm2.rc _ _ _)) 0 _ rfl (by simp)
          refine hK.out _ _ st2.1 (fun hHeld => ?_)
          (try simp only [Act.put, List.setIfInBounds_toArray, List.set_cons_zero, List.set_cons_succ])
          exact Hs31.out _ _ ⟨A1, n1, c1, D1, m1, d1, A2, n2, c2, D2, m2, d2, s3, A3, n3, c3, D3, m3, d3, W.heap.size, rfl, st2⟩
        exact AllReadyH.nil
      refine wpAnyH_with 6 #[true, true, true, true, false, false, false, false, true, false, false] (fun a W => ∃ (A1 : Option Addr) (n1 c1 : Nat) (D1 : Option Addr) (m1 d1 : Nat) (A2 : Option Addr) (n2 c2 : Nat) (D2 : Option Addr) (m2 d2 : Nat) (g0 : Nat), a = ⟨#[rv s (.slice Aa na ca) (.slice Da ma da), rv t (.slice Ab nb cb) (.slice Db mb db), .pointer (some ⟨w.heap.size, 0, none⟩), .pointer (some ⟨w.heap.size + 1, 0, none⟩), .bool false, .pointer (some ⟨g0, 0, none⟩), undef, undef, .bool true, .bool false, rv s (.slice Aa na ca) (.slice Da ma da), rv t (.slice Ab nb cb) (.slice Db mb db), .bool false, undef, rv s (.slice Aa na ca) (.slice Da ma da), rv s (.slice A1 n1 c1) (.slice D1 m1 d1), rv t (.slice Ab nb cb) (.slice Db mb db), rv t (.slice A2 n2 c2) (.slice D2 m2 d2), undef, undef, undef, undef, undef, undef, undef, undef, undef, undef, undef, undef, undef, undef, undef, undef, undef, undef, undef, undef, undef, undef, undef, undef, undef, undef], []⟩ ∧ Sg w2.drew.heap.size w2.drew W [rblk] [some g0] (fun W => ((True ∧ Rl W (rv s (.slice A1 n1 c1) (.slice D1 m1 d1)) s xsa ysa 12) ∧ Rl W (rv t (.slice A2 n2 c2) (.slice D2 m2 d2)) t xsb ysb 12))) ?_ (fun Hs21 => ?_)
      · rintro a W ⟨A1, n1, c1, D1, m1, d1, A2, n2, c2, D2, m2, d2, g0, rfl, st0⟩
        have hHeld := st0.1
        have st := hide st0
        clear st0
        refine wpAnyH_ready (rs := [4]) (by kernel_rfl) (by simp) ?_
        refine AllReadyH.cons rfl (fun K hK => ?_) ?_
        · go_simp
          go_at_call 23
          refine Calls.mono (div_r (L := 12) (RAa.out _ _ st.out.2.2.1.1.2) (RAb.out _ _ st.out.2.2.1.2) HB.out (by omega) (by omega)) ?_
          rintro e wx ⟨v9, rfl, hq, bx⟩
          obtain ⟨s3, A3, n3, c3, D3, m3, d3, rfl, tx⟩ := hq.parts
          clear hq
          try dsimp only
          have st2 := Sg.call (G := fun W => Rc W (rv s3 (.slice A3 n3 c3) (.slice D3 m3 d3)) (ra / rb) (2 * 12)) st.out bx (Firm2.and (Firm2.and Firm2.yes (Firm2.rl _ _ _ _ _)) (Firm2.rl _ _ _ _ _)) tx
          have hSt := hide st2
          refine hK.out _ _ st2.1 (fun hHeld => ?_)
          clear hK K st2
          (try simp only [Act.put, List.setIfInBounds_toArray, List.set_cons_zero, List.set_cons_succ])
          refine wpAnyH_take (i := 5) (v := ?_) rfl (by kernel_rfl) (by kernel_rfl) (by kernel_rfl) (fun _ _ _ h => h) (Or.inl ⟨?_, ?_⟩) (by assumption) ?_
          rotate_left
          · rfl
          · (intro w hSw; go_simp; try with_reducible rfl)
          (try simp only [Act.put, List.setIfInBounds_toArray, List.set_cons_zero, List.set_cons_succ])
          refine wpAnyH_take (i := 6) (v := ?_) rfl (by kernel_rfl) (by kernel_rfl) (by kernel_rfl) (fun _ _ _ h => h) (Or.inl ⟨?_, ?_⟩) (by assumption) ?_
          rotate_left
          · rfl
          · (intro w hSw; go_simp; try with_reducible rfl)
          (try simp only [Act.put, List.setIfInBounds_toArray, List.set_cons_zero, List.set_cons_succ])
          refine wpAnyH_take (i := 7) (v := ?_) rfl (by kernel_rfl) (by kernel_rfl) (by kernel_rfl) (fun _ _ _ h => h) (Or.inl ⟨?_, ?_⟩) (by assumption) ?_
          rotate_left
          · rfl
          · (intro w hSw; go_simp; try with_reducible rfl)
          (try simp only [Act.put, List.setIfInBounds_toArray, List.set_cons_zero, List.set_cons_succ])
          exact Hs31.out _ _ ⟨A1, n1, c1, D1, m1, d1, A2, n2, c2, D2, m2, d2, s3, A3, n3, c3, D3, m3, d3, g0, rfl, hSt.out⟩
        exact AllReadyH.nil
      refine wpAnyH_with 7 #[true, true, true, true, false, false, false, false, false, false, false] (fun a W => ∃ (A1 : Option Addr) (n1 c1 : Nat) (D1 : Option Addr) (m1 d1 : Nat) (A2 : Option Addr) (n2 c2 : Nat) (D2 : Option Addr) (m2 d2 : Nat), a = ⟨#[rv s (.slice Aa na ca) (.slice Da ma da), rv t (.slice Ab nb cb) (.slice Db mb db), .pointer (some ⟨w.heap.size, 0, none⟩), .pointer (some ⟨w.heap.size + 1, 0, none⟩), .bool false, undef, undef, undef, .bool true, .bool false, rv s (.slice Aa na ca) (.slice Da ma da), rv t (.slice Ab nb cb) (.slice Db mb db), .bool false, undef, rv s (.slice Aa na ca) (.slice Da ma da), rv s (.slice A1 n1 c1) (.slice D1 m1 d1), rv t (.slice Ab nb cb) (.slice Db mb db), rv t (.slice A2 n2 c2) (.slice D2 m2 d2), undef, undef, undef, undef, undef, undef, undef, undef, undef, undef, undef, undef, undef, undef, undef, undef, undef, undef, undef, undef, undef, undef, undef, undef, undef, undef], []⟩ ∧ Sg w2.drew.heap.size w2.drew W [rblk] [none] (fun W => ((True ∧ Rl W (rv s (.slice A1 n1 c1) (.slice D1 m1 d1)) s xsa ysa 12) ∧ Rl W (rv t (.slice A2 n2 c2) (.slice D2 m2 d2)) t xsb ysb 12))) ?_ (fun Hs20 => ?_)
      · rintro a W ⟨A1, n1, c1, D1, m1, d1, A2, n2, c2, D2, m2, d2, rfl, st0⟩
        have hHeld := st0.1
        have st := hide st0
        clear st0
        refine wpAnyH_ready (rs := [4, 8]) (by kernel_rfl) (by simp) ?_
        refine AllReadyH.cons rfl (fun K hK => ?_) ?_
        · go_simp
          go_at_call 23
          refine Calls.mono (div_r (L := 12) (RAa.out _ _ st.out.2.2.1.1.2) (RAb.out _ _ st.out.2.2.1.2) HB.out (by omega) (by omega)) ?_
          rintro e wx ⟨v9, rfl, hq, bx⟩
          obtain ⟨s3, A3, n3, c3, D3, m3, d3, rfl, tx⟩ := hq.parts
          clear hq
          try dsimp only
          have st2 := Sg.call (G := fun W => Rc W (rv s3 (.slice A3 n3 c3) (.slice D3 m3 d3)) (ra / rb) (2 * 12)) st.out bx (Firm2.and (Firm2.and Firm2.yes (Firm2.rl _ _ _ _ _)) (Firm2.rl _ _ _ _ _)) tx
          have hSt := hide st2
          refine hK.out _ _ st2.1 (fun hHeld => ?_)
          clear hK K st2
          (try simp only [Act.put, List.setIfInBounds_toArray, List.set_cons_zero, List.set_cons_succ])
          refine wpAnyH_take (i := 5) (v := ?_) rfl (by kernel_rfl) (by kernel_rfl) (by kernel_rfl) (fun _ _ _ h => h) (Or.inl ⟨?_, ?_⟩) (by assumption) ?_
          rotate_left
          · rfl
          · (intro w hSw; go_simp; try with_reducible rfl)
          (try simp only [Act.put, List.setIfInBounds_toArray, List.set_cons_zero, List.set_cons_succ])
          refine wpAnyH_take (i := 6) (v := ?_) rfl (by kernel_rfl) (by kernel_rfl) (by kernel_rfl) (fun _ _ _ h => h) (Or.inl ⟨?_, ?_⟩) (by assumption) ?_
          rotate_left
          · rfl
          · (intro w hSw; go_simp; try with_reducible rfl)
          (try simp only [Act.put, List.setIfInBounds_toArray, List.set_cons_zero, List.set_cons_succ])
          refine wpAnyH_take (i := 7) (v := ?_) rfl (by kernel_rfl) (by kernel_rfl) (by kernel_rfl) (fun _ _ _ h => h) (Or.inl ⟨?_, ?_⟩) (by assumption) ?_
          rotate_left
          · rfl
          · (intro w hSw; go_simp; try with_reducible rfl)
          (try simp only [Act.put, List.setIfInBounds_toArray, List.set_cons_zero, List.set_cons_succ])
          exact Hs30.out _ _ ⟨A1, n1, c1, D1, m1, d1, A2, n2, c2, D2, m2, d2, s3, A3, n3, c3, D3, m3, d3, rfl, hSt.out⟩
        refine AllReadyH.cons rfl (fun K hK => ?_) ?_
        · go_simp
          have st2 := Sg.make st.out (Firm2.and (Firm2.and Firm2.yes (Firm2.rl _ _ _ _ _)) (Firm2.rl _ _ _ _ _)) 0 _ rfl (by simp)
          refine hK.out _ _ st2.1 (fun hHeld => ?_)
          (try simp only [Act.put, List.setIfInBounds_toArray, List.set_cons_zero, List.set_cons_succ])
          exact Hs21.out _ _ ⟨A1, n1, c1, D1, m1, d1, A2, n2, c2, D2, m2, d2, W.heap.size, rfl, st2⟩
        exact AllReadyH.nil
      refine wpAnyH_with 7 #[true, true, true, false, false, false, false, false, true, false, false] (fun a W => ∃ (A1 : Option Addr) (n1 c1 : Nat) (D1 : Option Addr) (m1 d1 : Nat) (g0 : Nat), a = ⟨#[rv s (.slice Aa na ca) (.slice Da ma da), rv t (.slice Ab nb cb) (.slice Db mb db), .pointer (some ⟨w.heap.size, 0, none⟩), .pointer (some ⟨w.heap.size + 1, 0, none⟩), .bool false, .pointer (some ⟨g0, 0, none⟩), undef, undef, .bool true, .bool false, rv s (.slice Aa na ca) (.slice Da ma da), rv t (.slice Ab nb cb) (.slice Db mb db), .bool false, undef, rv s (.slice Aa na ca) (.slice Da ma da), rv s (.slice A1 n1 c1) (.slice D1 m1 d1), rv t (.slice Ab nb cb) (.slice Db mb db), undef, undef, undef, undef, undef, undef, undef, undef, undef, undef, undef, undef, undef, undef, undef, undef, undef, undef, undef, undef, undef, undef, undef, undef, undef, undef, undef], []⟩ ∧ Sg w2.drew.heap.size w2.drew W [rblk] [some g0] (fun W => (True ∧ Rl W (rv s (.slice A1 n1 c1) (.slice D1 m1 d1)) s xsa ysa 12))) ?_ (fun Hs11 => ?_)
      · rintro a W ⟨A1, n1, c1, D1, m1, d1, g0, rfl, st0⟩
        have hHeld := st0.1
        have st := hide st0
        clear st0
        refine wpAnyH_ready (rs := [3]) (by kernel_rfl) (by simp) ?_
        refine AllReadyH.cons rfl (fun K hK => ?_) ?_
        · go_simp
          go_at_call 24
          refine Calls.mono (rcopy_l (L := 12) (R.out.2.step st.out.1) (by omega)) ?_
          rintro e wx ⟨v9, rfl, hq, bx⟩
          obtain ⟨A2, n2, c2, D2, m2, d2, rfl, -, -, tx⟩ := hq.parts
          clear hq
          try dsimp only
          have st2 := Sg.call (G := fun W => Rl W (rv t (.slice A2 n2 c2) (.slice D2 m2 d2)) t xsb ysb 12) st.out bx (Firm2.and Firm2.yes (Firm2.rl _ _ _ _ _)) tx
          have hSt := hide st2
          refine hK.out _ _ st2.1 (fun hHeld => ?_)
          clear hK K st2
          (try simp only [Act.put, List.setIfInBounds_toArray, List.set_cons_zero, List.set_cons_succ])
          exact Hs21.out _ _ ⟨A1, n1, c1, D1, m1, d1, A2, n2, c2, D2, m2, d2, g0, rfl, hSt.out⟩
        exact AllReadyH.nil
      refine wpAnyH_with 8 #[true, true, true, false, false, false, false, false, false, false, false] (fun a W => ∃ (A1 : Option Addr) (n1 c1 : Nat) (D1 : Option Addr) (m1 d1 : Nat), a = ⟨#[rv s (.slice Aa na ca) (.slice Da ma da), rv t (.slice Ab nb cb) (.slice Db mb db), .pointer (some ⟨w.heap.size, 0, none⟩), .pointer (some ⟨w.heap.size + 1, 0, none⟩), .bool false, undef, undef, undef, .bool true, .bool false, rv s (.slice Aa na ca) (.slice Da ma da), rv t (.slice Ab nb cb) (.slice Db mb db), .bool false, undef, rv s (.slice Aa na ca) (.slice Da ma da), rv s (.slice A1 n1 c1) (.slice D1 m1 d1), rv t (.slice Ab nb cb) (.slice Db mb db), undef, undef, undef, undef, undef, undef, undef, undef, undef, undef, undef, undef, undef, undef, undef, undef, undef, undef, undef, undef, undef, undef, undef, undef, undef, undef, undef], []⟩ ∧ Sg w2.drew.heap.size w2.drew W [rblk] [none] (fun W => (True ∧ Rl W (rv s (.slice A1 n1 c1) (.slice D1 m1 d1)) s xsa ysa 12))) ?_ (fun Hs10 => ?_)
      · rintro a W ⟨A1, n1, c1, D1, m1, d1, rfl, st0⟩
        have hHeld := st0.1
        have st := hide st0
        clear st0
        refine wpAnyH_ready (rs := [3, 8]) (by kernel_rfl) (by simp) ?_
        refine AllReadyH.cons rfl (fun K hK => ?_) ?_
        · go_simp
          go_at_call 24
          refine Calls.mono (rcopy_l (L := 12) (R.out.2.step st.out.1) (by omega)) ?_
          rintro e wx ⟨v9, rfl, hq, bx⟩
          obtain ⟨A2, n2, c2, D2, m2, d2, rfl, -, -, tx⟩ := hq.parts
          clear hq
          try dsimp only
          have st2 := Sg.call (G := fun W => Rl W (rv t (.slice A2 n2 c2) (.slice D2 m2 d2)) t xsb ysb 12) st.out bx (Firm2.and Firm2.yes (Firm2.rl _ _ _ _ _)) tx
          have hSt := hide st2
          refine hK.out _ _ st2.1 (fun hHeld => ?_)
          clear hK K st2
          (try simp only [Act.put, List.setIfInBounds_toArray, List.set_cons_zero, List.set_cons_succ])
          exact Hs20.out _ _ ⟨A1, n1, c1, D1, m1, d1, A2, n2, c2, D2, m2, d2, rfl, hSt.out⟩
        refine AllReadyH.cons rfl (fun K hK => ?_) ?_
        · go_simp
          have st2 := Sg.make st.out (Firm2.and Firm2.yes (Firm2.rl _ _ _ _ _)) 0 _ rfl (by simp)
          refine hK.out _ _ st2.1 (fun hHeld => ?_)
          (try simp only [Act.put, List.setIfInBounds_toArray, List.set_cons_zero, List.set_cons_succ])
          exact Hs11.out _ _ ⟨A1, n1, c1, D1, m1, d1, W.heap.size, rfl, st2⟩
        exact AllReadyH.nil
      refine wpAnyH_with 8 #[true, false, true, false, false, false, false, false, true, false, false] (fun a W => ∃ (g0 : Nat), a = ⟨#[rv s (.slice Aa na ca) (.slice Da ma da), rv t (.slice Ab nb cb) (.slice Db mb db), .pointer (some ⟨w.heap.size, 0, none⟩), .pointer (some ⟨w.heap.size + 1, 0, none⟩), .bool false, .pointer (some ⟨g0, 0, none⟩), undef, undef, .bool true, .bool false, rv s (.slice Aa na ca) (.slice Da ma da), rv t (.slice Ab nb cb) (.slice Db mb db), .bool false, undef, rv s (.slice Aa na ca) (.slice Da ma da), undef, rv t (.slice Ab nb cb) (.slice Db mb db), undef, undef, undef, undef, undef, undef, undef, undef, undef, undef, undef, undef, undef, undef, undef, undef, undef, undef, undef, undef, undef, undef, undef, undef, undef, undef, undef], []⟩ ∧ Sg w2.drew.heap.size w2.drew W [rblk] [some g0] (fun W => True)) ?_ (fun Hs01 => ?_)
      · rintro a W ⟨g0, rfl, st0⟩
        have hHeld := st0.1
        have st := hide st0
        clear st0
        refine wpAnyH_ready (rs := [1]) (by kernel_rfl) (by simp) ?_
        refine AllReadyH.cons rfl (fun K hK => ?_) ?_
        · go_simp
          go_at_call 24
          refine Calls.mono (rcopy_l (L := 12) (R.out.1.step st.out.1) (by omega)) ?_
          rintro e wx ⟨v9, rfl, hq, bx⟩
          obtain ⟨A1, n1, c1, D1, m1, d1, rfl, -, -, tx⟩ := hq.parts
          clear hq
          try dsimp only
          have st2 := Sg.call (G := fun W => Rl W (rv s (.slice A1 n1 c1) (.slice D1 m1 d1)) s xsa ysa 12) st.out bx Firm2.yes tx
          have hSt := hide st2
          refine hK.out _ _ st2.1 (fun hHeld => ?_)
          clear hK K st2
          (try simp only [Act.put, List.setIfInBounds_toArray, List.set_cons_zero, List.set_cons_succ])
          exact Hs11.out _ _ ⟨A1, n1, c1, D1, m1, d1, g0, rfl, hSt.out⟩
        exact AllReadyH.nil
      refine wpAnyH_take (i := 0) (v := ?_) rfl (by kernel_rfl) (by kernel_rfl) (by kernel_rfl) (fun _ _ _ h => h) (Or.inl ⟨?_, ?_⟩) (by assumption) ?_
      rotate_left
      · rfl
      · (intro w hSw; have e0 := cell_keep P.out.1.1 hSw; have e1 := cell_keep P.out.1.2.1 hSw; have e2 := cell_keep P.out.1.2.2 hSw; go_simp; try with_reducible rfl)
      (try simp only [Act.put, List.setIfInBounds_toArray, List.set_cons_zero, List.set_cons_succ])
      refine wpAnyH_take (i := 2) (v := ?_) rfl (by kernel_rfl) (by kernel_rfl) (by kernel_rfl) (fun _ _ _ h => h) (Or.inl ⟨?_, ?_⟩) (by assumption) ?_
      rotate_left
      · rfl
      · (intro w hSw; have e0 := cell_keep P.out.2.1 hSw; have e1 := cell_keep P.out.2.2.1 hSw; have e2 := cell_keep P.out.2.2.2 hSw; go_simp; try with_reducible rfl)
      (try simp only [Act.put, List.setIfInBounds_toArray, List.set_cons_zero, List.set_cons_succ])
      refine wpAnyH_with 9 #[true, false, true, false, false, false, false, false, false, false, false] (fun a W => a = ⟨#[rv s (.slice Aa na ca) (.slice Da ma da), rv t (.slice Ab nb cb) (.slice Db mb db), .pointer (some ⟨w.heap.size, 0, none⟩), .pointer (some ⟨w.heap.size + 1, 0, none⟩), .bool false, undef, undef, undef, .bool true, .bool false, rv s (.slice Aa na ca) (.slice Da ma da), rv t (.slice Ab nb cb) (.slice Db mb db), .bool false, undef, rv s (.slice Aa na ca) (.slice Da ma da), undef, rv t (.slice Ab nb cb) (.slice Db mb db), undef, undef, undef, undef, undef, undef, undef, undef, undef, undef, undef, undef, undef, undef, undef, undef, undef, undef, undef, undef, undef, undef, undef, undef, undef, undef, undef], []⟩ ∧ Sg w2.drew.heap.size w2.drew W [rblk] [none] (fun W => True)) ?_ (fun Hs => Hs.out _ _ ⟨rfl, Sg.start _ _ 1⟩)
      rintro a W ⟨rfl, st0⟩
      have hHeld := st0.1
      have st := hide st0
      clear st0
      refine wpAnyH_ready (rs := [1, 8]) (by kernel_rfl) (by simp) ?_
      refine AllReadyH.cons rfl (fun K hK => ?_) ?_
      · go_simp
        go_at_call 24
        refine Calls.mono (rcopy_l (L := 12) (R.out.1.step st.out.1) (by omega)) ?_
        rintro e wx ⟨v9, rfl, hq, bx⟩
        obtain ⟨A1, n1, c1, D1, m1, d1, rfl, -, -, tx⟩ := hq.parts
        clear hq
        try dsimp only
        have st2 := Sg.call (G := fun W => Rl W (rv s (.slice A1 n1 c1) (.slice D1 m1 d1)) s xsa ysa 12) st.out bx Firm2.yes tx
        have hSt := hide st2
        refine hK.out _ _ st2.1 (fun hHeld => ?_)
        clear hK K st2
        (try simp only [Act.put, List.setIfInBounds_toArray, List.set_cons_zero, List.set_cons_succ])
        exact Hs10.out _ _ ⟨A1, n1, c1, D1, m1, d1, rfl, hSt.out⟩
      refine AllReadyH.cons rfl (fun K hK => ?_) ?_
      · go_simp
        have st2 := Sg.make st.out Firm2.yes 0 _ rfl (by simp)
        refine hK.out _ _ st2.1 (fun hHeld => ?_)
        (try simp only [Act.put, List.setIfInBounds_toArray, List.set_cons_zero, List.set_cons_succ])
        exact Hs01.out _ _ ⟨W.heap.size, rfl, st2⟩
      exact AllReadyH.nil
end Go.Proofs.Ytpcchagnbkohnaa
