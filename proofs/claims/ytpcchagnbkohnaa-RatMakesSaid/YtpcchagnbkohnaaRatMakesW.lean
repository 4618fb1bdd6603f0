/-
  The walk of RatMakes: true.
-/
import Derived.Test.YtpcchagnbkohnaaRown
import Derived.Test.YtpcchagnbkohnaaRatM
import Derived.Test.YtpcchagnbkohnaaBundleG


namespace Go.Proofs.Ytpcchagnbkohnaa
open Go.RowKit Go.Proofs.Ytpcchagnbkohnaa.Num
set_option linter.unusedVariables false
set_option linter.unusedSimpArgs false
set_option maxRecDepth 100000

theorem Lw.bset {w : World} {v : Value} {xs : List Nat} {L g : Nat} (h : Lw w v xs L) (hz : Bn w g) (j : Nat) (u : Value) : Lw (w.setCell ⟨g, j, none⟩ u) v xs L := by
  obtain ⟨A, n, c, e, h1, h2⟩ := h
  exact ⟨A, n, c, e, by rw [World.size_setCell]; exact h1.bset hz j u, h2⟩
theorem Firm2.lw (v : Value) (xs : List Nat) (L : Nat) : Firm2 (fun W => Lw W v xs L) := ⟨fun _ _ h hb => h.step hb, fun _ _ j u h hn => h.bset hn j u⟩
theorem Nw.open8 {w : World} {A : Option Addr} {n c x L : Nat} (h : Nw w (.slice A n c) x L) : ∃ xs, vl Q xs = x ∧ (n ≤ 8 → Lw w (.slice A n c) xs 8) := by
  obtain ⟨xs, hx, A', n', c', e, h1, h2, h3, h4, h5⟩ := h.lw
  injection e with e1 e2 e3
  subst e1; subst e2; subst e3
  exact ⟨xs, hx, fun hn => ⟨A, n, c, rfl, h1, h2, h3, h4, hn⟩⟩
theorem Fx.grown {w w' : World} {g : Nat} {s : Bool} {A D : Option Addr} {n c m d : Nat} {row : Option Nat} (h : Fx w g s A n c D m d) (hg : w.grownBy w' row) (hlt : g < w.heap.size) (hne : row ≠ some g) : Fx w' g s A n c D m d := by
  have e := hg.block g hlt (fun e => hne e.symm)
  exact ⟨(World.cell?_of_block (w := w) (w' := w') e).trans h.1, (World.cell?_of_block (w := w) (w' := w') e).trans h.2.1, (World.cell?_of_block (w := w) (w' := w') e).trans h.2.2⟩
theorem cell_lt {W : World} {g j : Nat} {v : Value} (h : W.cell? ⟨g, j, none⟩ = some v) : g < W.heap.size := by
  unfold World.cell? at h
  split at h
  · rename_i hb
    exact (Array.getElem?_eq_some_iff.1 hb).1
  · cases h

set_option maxHeartbeats 16000000 in
theorem ratmakes_true (w : World) (sa : Bool) (ua : Value) (sb : Bool) (ub : Value) (xa xb : Nat) (hua : Nw w ua xa 17592186043904) (hub : Nw w ub xb 17592186043904) :
    Calls Try.prog 3 #[zv sa ua, zv sb ub] w fun e w' => e = .returned (.bool true) ∧ Below w.heap.size w w' := by
  obtain ⟨Aa, na, ca, rfl⟩ := hua.slice
  obtain ⟨Ab, nb, cb, rfl⟩ := hub.slice
  obtain ⟨xsa, hxa, hla⟩ := hua.open8
  obtain ⟨xsb, hxb, hlb⟩ := hub.open8
  obtain ⟨b2, y1, y2⟩ := box2 w sa sb Aa Ab na ca nb cb
  have P := hide (And.intro y1 y2)
  have B := hide b2
  have HL : Hid (na ≤ 8 → nb ≤ 8 → Lw ((w.alloc (zbox sa (.slice Aa na ca))).alloc (zbox sb (.slice Ab nb cb))) (.slice Aa na ca) xsa 8 ∧ Lw ((w.alloc (zbox sa (.slice Aa na ca))).alloc (zbox sb (.slice Ab nb cb))) (.slice Ab nb cb) xsb 8) := hide (fun h k => ⟨(hla h).step b2, (hlb k).step b2⟩)
  obtain ⟨ai, ha⟩ : ∃ ai, zi sa xa = ai := ⟨_, rfl⟩
  obtain ⟨bi, hb⟩ : ∃ bi, zi sb xb = bi := ⟨_, rfl⟩
  have HA : Hid (∀ W A n c, Lw W (.slice A n c) xsa 8 → Za W (zv sa (.slice A n c)) ai 8) := hide (fun W A n c h => h.za hxa ha)
  have HBB : Hid (∀ W A n c, Lw W (.slice A n c) xsb 8 → Za W (zv sb (.slice A n c)) bi 8) := hide (fun W A n c h => h.za hxb hb)
  clear hua hub hla hlb y1 y2 b2 hxa hxb ha hb
  by_cases g1 : 8 < na
  · have t1 : decide ((8 : Int) < (na : Int)) = true := decide_eq_true (by omega)
    clear g1 HL
    go_enter Try.func3, Try.ntmps3
    go_wp2_with fail
    refine (rspeaks_true _).mono ?_
    rintro e w1 ⟨rfl, bx0⟩
    have bx := Below.step1 bx0 (Below.drew (Below.refl w1.heap.size w1))
    obtain ⟨p0, p1⟩ := P.out.1.step bx0
    obtain ⟨q0, q1⟩ := P.out.2.step bx0
    replace B := hide (Below.step B.out B.out.size bx0)
    clear bx bx0
    go_wp2_with fail
    go_ret
    exact ⟨rfl, B.out⟩
  · have t1 : decide ((8 : Int) < (na : Int)) = false := decide_eq_false (by omega)
    by_cases g2 : 8 < nb
    · have t2 : decide ((8 : Int) < (nb : Int)) = true := decide_eq_true (by omega)
      clear g1 g2 HL
      go_enter Try.func3, Try.ntmps3
      go_wp2_with fail
      refine (rspeaks_true _).mono ?_
      rintro e w1 ⟨rfl, bx0⟩
      have bx := Below.step1 bx0 (Below.drew (Below.refl w1.heap.size w1))
      obtain ⟨p0, p1⟩ := P.out.1.step bx0
      obtain ⟨q0, q1⟩ := P.out.2.step bx0
      replace B := hide (Below.step B.out B.out.size bx0)
      clear bx bx0
      go_wp2_with fail
      go_ret
      exact ⟨rfl, B.out⟩
    · have t2 : decide ((8 : Int) < (nb : Int)) = false := decide_eq_false (by omega)
      have R := hide (HL.out (by omega) (by omega))
      clear g1 g2 HL
      by_cases hb0 : bi = 0
      · have HB := hide hb0
        clear hb0
        go_enter Try.func3, Try.ntmps3
        go_wp2_with fail
        refine (rspeaks_true _).mono ?_
        rintro e w1 ⟨rfl, bx0⟩
        have bx := Below.step1 bx0 (Below.drew (Below.refl w1.heap.size w1))
        obtain ⟨p0, p1⟩ := P.out.1.step bx0
        obtain ⟨q0, q1⟩ := P.out.2.step bx0
        replace P := hide (And.intro (P.out.1.step bx) (P.out.2.step bx))
        replace R := hide (And.intro (R.out.1.step bx) (R.out.2.step bx))
        replace B := hide (Below.step B.out B.out.size bx)
        clear bx bx0
        go_wp2_with fail
        clear p0 p1 q0 q1 t1 t2
        refine wp_region_held_drew (S := fun W => Below w1.drew.heap.size w1.drew W) (by kernel_rfl) (Below.refl _ _) (fun hHeld => ?_)
        refine wpAnyH_with 2 #[true, true, true, true, true, true, false, false] (fun a W => ∃ (Ax : Option Addr) (nx cx : Nat) (Ay : Option Addr) (ny cy : Nat) (g0 : Nat) (g1 : Nat), a = ⟨#[zv sa (.slice Aa na ca), zv sb (.slice Ab nb cb), .pointer (some ⟨w.heap.size, 0, none⟩), .pointer (some ⟨w.heap.size + 1, 0, none⟩), .bool false, .pointer (some ⟨g0, 0, none⟩), .pointer (some ⟨g1, 0, none⟩), undef, undef, undef, undef, undef, undef, .bool true, .bool false, .pointer (some ⟨w.heap.size, 1, none⟩), .slice Aa na ca, .int .i64 ((na : Nat) : Int), .bool false, .bool false, .pointer (some ⟨w.heap.size + 1, 1, none⟩), .slice Ab nb cb, .int .i64 ((nb : Nat) : Int), .bool false, .bool false, zv sa (.slice Aa na ca), zv sa (.slice Ax nx cx), zv sb (.slice Ab nb cb), zv sb (.slice Ay ny cy), undef, undef, undef, undef, undef, undef, undef, undef, undef, undef, undef, undef, undef, undef, undef, undef, undef, undef, undef, undef, undef, undef, undef, undef, undef, undef, undef, undef, undef, undef, undef, undef, undef, undef, undef, undef, undef, undef, undef, undef, undef, undef, undef, undef, undef, undef, undef, undef, undef, undef, undef, undef, undef, undef, undef, undef, undef, undef, undef, undef, undef, undef, undef, undef, undef], []⟩ ∧ Sg w1.drew.heap.size w1.drew W [zblk, zblk] [some g0, some g1] (fun W => ((True ∧ Lw W (.slice Ax nx cx) xsa 8) ∧ Lw W (.slice Ay ny cy) xsb 8))) ?_ (fun Hs211 => ?_)
        · rintro a W ⟨Ax, nx, cx, Ay, ny, cy, g0, g1, rfl, st0⟩
          have hHeld := st0.1
          have st := hide st0
          clear st0
          obtain ⟨k0, f0⟩ := Sg.cells st.out 0 g0 #[.bool false, .slice none 0 0] 24 rfl rfl 0
          obtain ⟨k1, f1⟩ := Sg.cells st.out 0 g0 #[.bool false, .slice none 0 0] 24 rfl rfl 1
          simp only [List.getElem?_toArray, List.getElem?_cons_zero, List.getElem?_cons_succ] at k0
          simp only [List.getElem?_toArray, List.getElem?_cons_zero, List.getElem?_cons_succ] at k1
          have st9 := st.out
          have st9 := Sg.put st9 (Firm2.and (Firm2.and Firm2.yes (Firm2.lw _ _ _)) (Firm2.lw _ _ _)) 0 g0 0 _ 24 (.bool sa) rfl rfl rfl
          have st9 := Sg.put st9 (Firm2.and (Firm2.and Firm2.yes (Firm2.lw _ _ _)) (Firm2.lw _ _ _)) 0 g0 1 _ 24 (.slice Ax nx cx) rfl rfl rfl
          have st8 := hide st9
          clear st9
          refine wpAnyH_ready (rs := [6]) (by kernel_rfl) (by simp) ?_
          refine AllReadyH.cons rfl (fun K hK => ?_) ?_
          rotate_left
          · exact AllReadyH.nil
          go_simp
          refine hK.out _ _ st8.out.1 (fun hHeld => ?_)
          clear hK K k0 f0 k1 f1 st
          (try simp only [Act.put, List.setIfInBounds_toArray, List.set_cons_zero, List.set_cons_succ])
          generalize ((W.setCell ⟨g0, 0, none⟩ _).setCell ⟨g0, 1, none⟩ _) = W5 at *
          have st := st8
          clear st8
          obtain ⟨k0, f0⟩ := Sg.cells st.out 1 g1 #[.bool false, .slice none 0 0] 24 rfl rfl 0
          obtain ⟨k1, f1⟩ := Sg.cells st.out 1 g1 #[.bool false, .slice none 0 0] 24 rfl rfl 1
          simp only [List.getElem?_toArray, List.getElem?_cons_zero, List.getElem?_cons_succ] at k0
          simp only [List.getElem?_toArray, List.getElem?_cons_zero, List.getElem?_cons_succ] at k1
          have st9 := st.out
          have st9 := Sg.put st9 (Firm2.and (Firm2.and Firm2.yes (Firm2.lw _ _ _)) (Firm2.lw _ _ _)) 1 g1 0 _ 24 (.bool sb) rfl rfl rfl
          have st9 := Sg.put st9 (Firm2.and (Firm2.and Firm2.yes (Firm2.lw _ _ _)) (Firm2.lw _ _ _)) 1 g1 1 _ 24 (.slice Ay ny cy) rfl rfl rfl
          have st8 := hide st9
          clear st9
          refine wpAnyH_ready (rs := [7]) (by kernel_rfl) (by simp) ?_
          refine AllReadyH.cons rfl (fun K hK => ?_) ?_
          rotate_left
          · exact AllReadyH.nil
          go_simp
          refine hK.out _ _ st8.out.1 (fun hHeld => ?_)
          clear hK K k0 f0 k1 f1 st
          (try simp only [Act.put, List.setIfInBounds_toArray, List.set_cons_zero, List.set_cons_succ])
          generalize ((W5.setCell ⟨g1, 0, none⟩ _).setCell ⟨g1, 1, none⟩ _) = W6 at *
          have st := st8
          clear st8
          refine wpAnyH_done (by kernel_rfl) ?_ _
          clear hHeld
          have s9 := st.out
          have P := hide (And.intro (P.out.1.step s9.1) (And.intro (P.out.2.step s9.1) (And.intro (show Bx W6 g0 sa Ax nx cx from ⟨(Sg.cells s9 0 g0 _ _ rfl rfl 0).1, (Sg.cells s9 0 g0 _ _ rfl rfl 1).1⟩) (show Bx W6 g1 sb Ay ny cy from ⟨(Sg.cells s9 1 g1 _ _ rfl rfl 0).1, (Sg.cells s9 1 g1 _ _ rfl rfl 1).1⟩))))
          have R := hide (And.intro (R.out.1.step s9.1) (And.intro (R.out.2.step s9.1) (And.intro s9.2.2.1.1.2 s9.2.2.1.2)))
          have B := hide (Below.step B.out B.out.size s9.1)
          clear s9 st
          generalize W6 = M at *
          have PM := P
          have RM := R
          have BM := B
          obtain ⟨-, -, ⟨p0, p1⟩, q0, q1⟩ := P.out
          go_wp2_with fail
          refine (make_zero (L := 8) (M := 8) (HA.out _ _ _ _ R.out.2.2.1) (by rw [← HB.out]; exact HBB.out _ _ _ _ R.out.2.2.2) (by omega)).mono ?_
          rintro e w4 ⟨rfl, b0⟩
          obtain ⟨x, y1⟩ := fbox1 w4 false none 0 0 none 0 0
          have dr := Below.drew (Below.refl (w4.alloc (rbox false (.slice none 0 0) (.slice none 0 0))).heap.size (w4.alloc (rbox false (.slice none 0 0) (.slice none 0 0))))
          have bx := Below.step1 (Below.step1 b0 x) dr
          have P := hide (And.intro (P.out.1.step bx) (And.intro (P.out.2.1.step bx) (And.intro (P.out.2.2.1.step bx) (And.intro (P.out.2.2.2.step bx) (y1.step dr)))))
          replace R := hide ((And.intro (R.out.1.step bx) (And.intro (R.out.2.1.step bx) (And.intro (R.out.2.2.1.step bx) (R.out.2.2.2.step bx)))))
          have BB := hide bx
          have B := hide (Below.step B.out B.out.size bx)
          have H4 := hide (Nat.le_trans x.size dr.size)
          clear p0 p1 q0 q1 bx b0 x y1 dr
          go_wp2_with fail
          generalize (w4.alloc (.cells #[.bool false, .slice none 0 0, .slice none 0 0] 28)) = w5 at *
          generalize hg7 : w4.heap.size = g7 at *
          refine wp_region_held_drew (S := fun W => Below w5.drew.heap.size w5.drew W) (by kernel_rfl) (Below.refl _ _) (fun hHeld => ?_)
          refine wpAnyH_with 2 #[true, true, true, true, true, true, false, false] (fun a W => ∃ (se : Bool) (Ae : Option Addr) (ne ce : Nat) (sf : Bool) (Af : Option Addr) (nf cf : Nat) (h0 : Nat) (h1 : Nat), a = ⟨#[zv sa (.slice Aa na ca), zv sb (.slice Ab nb cb), .pointer (some ⟨w.heap.size, 0, none⟩), .pointer (some ⟨w.heap.size + 1, 0, none⟩), .bool false, .pointer (some ⟨g0, 0, none⟩), .pointer (some ⟨g1, 0, none⟩), .pointer (some ⟨g7, 0, none⟩), .int .i64 3, .pointer (some ⟨h0, 0, none⟩), .pointer (some ⟨h1, 0, none⟩), undef, undef, .bool true, .bool false, .pointer (some ⟨w.heap.size, 1, none⟩), .slice Aa na ca, .int .i64 ((na : Nat) : Int), .bool false, .bool false, .pointer (some ⟨w.heap.size + 1, 1, none⟩), .slice Ab nb cb, .int .i64 ((nb : Nat) : Int), .bool false, .bool false, zv sa (.slice Aa na ca), zv sa (.slice Ax nx cx), zv sb (.slice Ab nb cb), zv sb (.slice Ay ny cy), .tuple #[rv false (.slice none 0 0) (.slice none 0 0), .int .i64 3], zv sa (.slice Ax nx cx), zv sb (.slice Ay ny cy), .tuple #[rv false (.slice none 0 0) (.slice none 0 0), .int .i64 3], rv false (.slice none 0 0) (.slice none 0 0), .int .i64 3, zv sa (.slice Aa na ca), zv se (.slice Ae ne ce), zv sb (.slice Ab nb cb), zv sf (.slice Af nf cf), undef, undef, undef, undef, undef, undef, undef, undef, undef, undef, undef, undef, undef, undef, undef, undef, undef, undef, undef, undef, undef, undef, undef, undef, undef, undef, undef, undef, undef, undef, undef, undef, undef, undef, undef, undef, undef, undef, undef, undef, undef, undef, undef, undef, undef, undef, undef, undef, undef, undef, undef, undef, undef, undef, undef], []⟩ ∧ Sg w5.drew.heap.size w5.drew W [qblk, qblk] [some h0, some h1] (fun W => ((True ∧ Qi W (zv se (.slice Ae ne ce)) ai (5 * 8)) ∧ Qi W (zv sf (.slice Af nf cf)) bi (5 * 8)))) ?_ (fun Hs211 => ?_)
          · rintro a W ⟨se, Ae, ne, ce, sf, Af, nf, cf, h0, h1, rfl, st0⟩
            have hHeld := st0.1
            have st := hide st0
            clear st0
            obtain ⟨k0, f0⟩ := Sg.cells st.out 0 h0 #[.bool false, .slice none 0 0] 34 rfl rfl 0
            obtain ⟨k1, f1⟩ := Sg.cells st.out 0 h0 #[.bool false, .slice none 0 0] 34 rfl rfl 1
            simp only [List.getElem?_toArray, List.getElem?_cons_zero, List.getElem?_cons_succ] at k0
            simp only [List.getElem?_toArray, List.getElem?_cons_zero, List.getElem?_cons_succ] at k1
            have st9 := st.out
            have st9 := Sg.put st9 (Firm2.and (Firm2.and Firm2.yes (Firm2.qi _ _ _)) (Firm2.qi _ _ _)) 0 h0 0 _ 34 (.bool se) rfl rfl rfl
            have st9 := Sg.put st9 (Firm2.and (Firm2.and Firm2.yes (Firm2.qi _ _ _)) (Firm2.qi _ _ _)) 0 h0 1 _ 34 (.slice Ae ne ce) rfl rfl rfl
            have st8 := hide st9
            clear st9
            refine wpAnyH_ready (rs := [6]) (by kernel_rfl) (by simp) ?_
            refine AllReadyH.cons rfl (fun K hK => ?_) ?_
            rotate_left
            · exact AllReadyH.nil
            go_simp
            refine hK.out _ _ st8.out.1 (fun hHeld => ?_)
            clear hK K k0 f0 k1 f1 st
            (try simp only [Act.put, List.setIfInBounds_toArray, List.set_cons_zero, List.set_cons_succ])
            generalize ((W.setCell ⟨h0, 0, none⟩ _).setCell ⟨h0, 1, none⟩ _) = W5 at *
            have st := st8
            clear st8
            obtain ⟨k0, f0⟩ := Sg.cells st.out 1 h1 #[.bool false, .slice none 0 0] 34 rfl rfl 0
            obtain ⟨k1, f1⟩ := Sg.cells st.out 1 h1 #[.bool false, .slice none 0 0] 34 rfl rfl 1
            simp only [List.getElem?_toArray, List.getElem?_cons_zero, List.getElem?_cons_succ] at k0
            simp only [List.getElem?_toArray, List.getElem?_cons_zero, List.getElem?_cons_succ] at k1
            have st9 := st.out
            have st9 := Sg.put st9 (Firm2.and (Firm2.and Firm2.yes (Firm2.qi _ _ _)) (Firm2.qi _ _ _)) 1 h1 0 _ 34 (.bool sf) rfl rfl rfl
            have st9 := Sg.put st9 (Firm2.and (Firm2.and Firm2.yes (Firm2.qi _ _ _)) (Firm2.qi _ _ _)) 1 h1 1 _ 34 (.slice Af nf cf) rfl rfl rfl
            have st8 := hide st9
            clear st9
            refine wpAnyH_ready (rs := [7]) (by kernel_rfl) (by simp) ?_
            refine AllReadyH.cons rfl (fun K hK => ?_) ?_
            rotate_left
            · exact AllReadyH.nil
            go_simp
            refine hK.out _ _ st8.out.1 (fun hHeld => ?_)
            clear hK K k0 f0 k1 f1 st
            (try simp only [Act.put, List.setIfInBounds_toArray, List.set_cons_zero, List.set_cons_succ])
            generalize ((W5.setCell ⟨h1, 0, none⟩ _).setCell ⟨h1, 1, none⟩ _) = W6 at *
            have st := st8
            clear st8
            refine wpAnyH_done (by kernel_rfl) ?_ _
            clear hHeld
            have s9 := st.out
            have bx := s9.1
            have P := hide (And.intro (P.out.1.step bx) (And.intro (P.out.2.1.step bx) (And.intro (P.out.2.2.1.step bx) (And.intro (P.out.2.2.2.1.step bx) (And.intro (P.out.2.2.2.2.step bx) (And.intro (show Bx W6 h0 se Ae ne ce from ⟨(Sg.cells s9 0 h0 _ _ rfl rfl 0).1, (Sg.cells s9 0 h0 _ _ rfl rfl 1).1⟩) (show Bx W6 h1 sf Af nf cf from ⟨(Sg.cells s9 1 h1 _ _ rfl rfl 0).1, (Sg.cells s9 1 h1 _ _ rfl rfl 1).1⟩)))))))
            replace R := hide ((And.intro (R.out.1.step bx) (And.intro (R.out.2.1.step bx) (And.intro (R.out.2.2.1.step bx) (R.out.2.2.2.step bx)))))
            have QQ := hide (And.intro s9.2.2.1.1.2 s9.2.2.1.2)
            replace BB := hide (Below.step1 BB.out bx)
            have B := hide (Below.step B.out B.out.size bx)
            have H4 := hide (Nat.le_trans H4.out s9.1.size)
            clear bx s9 st
            generalize W6 = w6 at *
            obtain ⟨-, -, ⟨p0, p1⟩, -⟩ := P.out
            go_wp2_with fail
            refine (ofint_own (L := 8) (HA.out _ _ _ _ R.out.2.2.1) (by omega) (by omega)).mono ?_
            rintro e w7 ⟨s9, u9, v9, rfl, hc9, o1, o2, dj9, b0⟩
            obtain ⟨A9, n9, c9, rfl⟩ := o1.slice
            obtain ⟨D9, m9, d9, rfl⟩ := o2.slice
            obtain ⟨x, y1⟩ := fbox1 w7 s9 A9 n9 c9 D9 m9 d9
            have dr := Below.drew (Below.refl (w7.alloc (rbox s9 (.slice A9 n9 c9) (.slice D9 m9 d9))).heap.size (w7.alloc (rbox s9 (.slice A9 n9 c9) (.slice D9 m9 d9))))
            have C9 := hide ((hc9.step x).step dr)
            have bx := Below.step1 (Below.step1 b0 x) dr
            have P := hide (And.intro (P.out.1.step bx) (And.intro (P.out.2.1.step bx) (And.intro (P.out.2.2.1.step bx) (And.intro (P.out.2.2.2.1.step bx) (And.intro (P.out.2.2.2.2.1.step bx) (And.intro (P.out.2.2.2.2.2.1.step bx) (And.intro (P.out.2.2.2.2.2.2.step bx) (y1.step dr))))))))
            replace R := hide ((And.intro (R.out.1.step bx) (And.intro (R.out.2.1.step bx) (And.intro (R.out.2.2.1.step bx) (R.out.2.2.2.step bx)))))
            replace QQ := hide (And.intro (QQ.out.1.step bx) (QQ.out.2.step bx))
            replace BB := hide (Below.step1 BB.out bx)
            have B := hide (Below.step B.out B.out.size bx)
            clear p0 p1 bx b0 x y1 dr hc9 o1 o2 dj9
            go_wp2_with fail
            generalize (w7.alloc (.cells #[.bool s9, .slice A9 n9 c9, .slice D9 m9 d9] 28)) = w8 at *
            generalize hg11 : w7.heap.size = g11 at *
            go_region_held3 (fun W => (W.cell? ⟨w.heap.size, 0, none⟩ = some (.bool sa) ∧ W.cell? ⟨w.heap.size, 1, none⟩ = some (.slice Aa na ca)) ∧ (W.cell? ⟨w.heap.size + 1, 0, none⟩ = some (.bool sb) ∧ W.cell? ⟨w.heap.size + 1, 1, none⟩ = some (.slice Ab nb cb)) ∧ (W.cell? ⟨g0, 0, none⟩ = some (.bool sa) ∧ W.cell? ⟨g0, 1, none⟩ = some (.slice Ax nx cx)) ∧ (W.cell? ⟨g1, 0, none⟩ = some (.bool sb) ∧ W.cell? ⟨g1, 1, none⟩ = some (.slice Ay ny cy)) ∧ (W.cell? ⟨g7, 0, none⟩ = some (.bool false) ∧ W.cell? ⟨g7, 1, none⟩ = some (.slice none 0 0) ∧ W.cell? ⟨g7, 2, none⟩ = some (.slice none 0 0)) ∧ (W.cell? ⟨h0, 0, none⟩ = some (.bool se) ∧ W.cell? ⟨h0, 1, none⟩ = some (.slice Ae ne ce)) ∧ (W.cell? ⟨h1, 0, none⟩ = some (.bool sf) ∧ W.cell? ⟨h1, 1, none⟩ = some (.slice Af nf cf)) ∧ (W.cell? ⟨g11, 0, none⟩ = some (.bool s9) ∧ W.cell? ⟨g11, 1, none⟩ = some (.slice A9 n9 c9) ∧ W.cell? ⟨g11, 2, none⟩ = some (.slice D9 m9 d9)))
              (exact P.out)
              (first
                | (go_at_call 17; refine Calls.mono (rwhole_any (a := ai) (L := 5 * 8) QQ.out.1 (by omega) (by omega)) ?_; rintro e wx ⟨vx, rfl, tx, bx⟩; replace P := hide ((And.intro (P.out.1.step bx) (And.intro (P.out.2.1.step bx) (And.intro (P.out.2.2.1.step bx) (And.intro (P.out.2.2.2.1.step bx) (And.intro (P.out.2.2.2.2.1.step bx) (And.intro (P.out.2.2.2.2.2.1.step bx) (And.intro (P.out.2.2.2.2.2.2.1.step bx) (P.out.2.2.2.2.2.2.2.step bx))))))))); replace R := hide ((And.intro (R.out.1.step bx) (And.intro (R.out.2.1.step bx) (And.intro (R.out.2.2.1.step bx) (R.out.2.2.2.step bx))))); replace QQ := hide (And.intro (QQ.out.1.step bx) (QQ.out.2.step bx)); replace C9 := hide (C9.out.step bx); replace BB := hide (Below.step1 BB.out bx); replace B := hide (Below.step B.out B.out.size bx))
                | (go_at_call 16; refine Calls.mono (rfto_any (r := (ai : Rat)) (L := 5 * 8) ?_ (by omega)) ?_; (focus ((repeat (first | (with_reducible assumption) | (with_reducible refine Rf.step ?_ (by with_reducible assumption)))); done)); rintro e wx ⟨vx, rfl, tx, bx⟩; replace P := hide ((And.intro (P.out.1.step bx) (And.intro (P.out.2.1.step bx) (And.intro (P.out.2.2.1.step bx) (And.intro (P.out.2.2.2.1.step bx) (And.intro (P.out.2.2.2.2.1.step bx) (And.intro (P.out.2.2.2.2.2.1.step bx) (And.intro (P.out.2.2.2.2.2.2.1.step bx) (P.out.2.2.2.2.2.2.2.step bx))))))))); replace R := hide ((And.intro (R.out.1.step bx) (And.intro (R.out.2.1.step bx) (And.intro (R.out.2.2.1.step bx) (R.out.2.2.2.step bx))))); replace QQ := hide (And.intro (QQ.out.1.step bx) (QQ.out.2.step bx)); replace C9 := hide (C9.out.step bx); replace BB := hide (Below.step1 BB.out bx); replace B := hide (Below.step B.out B.out.size bx))
                | (go_at_call 15; refine Calls.mono (rsame_c (r := (ai : Rat)) (L := 8) (M := 5 * 8) ?_ ?_) ?_; (focus ((with_reducible exact C9.out); done)); (focus ((repeat (first | (with_reducible assumption) | (with_reducible exact C9.out) | (with_reducible refine Rc.step ?_ (by with_reducible assumption)))); done)); rintro e wx ⟨rfl, bx⟩; replace P := hide ((And.intro (P.out.1.step bx) (And.intro (P.out.2.1.step bx) (And.intro (P.out.2.2.1.step bx) (And.intro (P.out.2.2.2.1.step bx) (And.intro (P.out.2.2.2.2.1.step bx) (And.intro (P.out.2.2.2.2.2.1.step bx) (And.intro (P.out.2.2.2.2.2.2.1.step bx) (P.out.2.2.2.2.2.2.2.step bx))))))))); replace R := hide ((And.intro (R.out.1.step bx) (And.intro (R.out.2.1.step bx) (And.intro (R.out.2.2.1.step bx) (R.out.2.2.2.step bx))))); replace QQ := hide (And.intro (QQ.out.1.step bx) (QQ.out.2.step bx)); replace C9 := hide (C9.out.step bx); replace BB := hide (Below.step1 BB.out bx); replace B := hide (Below.step B.out B.out.size bx))
                | (go_at_call 18; refine Calls.mono (zsame_l (xs := xsa) (L := 8) (M := 8) ?_ ?_) ?_; (focus ((with_reducible exact R.out.2.2.1); done)); (focus ((with_reducible exact R.out.1); done)); rintro e wx ⟨rfl, bx⟩; replace P := hide ((And.intro (P.out.1.step bx) (And.intro (P.out.2.1.step bx) (And.intro (P.out.2.2.1.step bx) (And.intro (P.out.2.2.2.1.step bx) (And.intro (P.out.2.2.2.2.1.step bx) (And.intro (P.out.2.2.2.2.2.1.step bx) (And.intro (P.out.2.2.2.2.2.2.1.step bx) (P.out.2.2.2.2.2.2.2.step bx))))))))); replace R := hide ((And.intro (R.out.1.step bx) (And.intro (R.out.2.1.step bx) (And.intro (R.out.2.2.1.step bx) (R.out.2.2.2.step bx))))); replace QQ := hide (And.intro (QQ.out.1.step bx) (QQ.out.2.step bx)); replace C9 := hide (C9.out.step bx); replace BB := hide (Below.step1 BB.out bx); replace B := hide (Below.step B.out B.out.size bx))
                | (go_at_call 18; refine Calls.mono (zsame_l (xs := xsb) (L := 8) (M := 8) ?_ ?_) ?_; (focus ((with_reducible exact R.out.2.2.2); done)); (focus ((with_reducible exact R.out.2.1); done)); rintro e wx ⟨rfl, bx⟩; replace P := hide ((And.intro (P.out.1.step bx) (And.intro (P.out.2.1.step bx) (And.intro (P.out.2.2.1.step bx) (And.intro (P.out.2.2.2.1.step bx) (And.intro (P.out.2.2.2.2.1.step bx) (And.intro (P.out.2.2.2.2.2.1.step bx) (And.intro (P.out.2.2.2.2.2.2.1.step bx) (P.out.2.2.2.2.2.2.2.step bx))))))))); replace R := hide ((And.intro (R.out.1.step bx) (And.intro (R.out.2.1.step bx) (And.intro (R.out.2.2.1.step bx) (R.out.2.2.2.step bx))))); replace QQ := hide (And.intro (QQ.out.1.step bx) (QQ.out.2.step bx)); replace C9 := hide (C9.out.step bx); replace BB := hide (Below.step1 BB.out bx); replace B := hide (Below.step B.out B.out.size bx)))
            all_goals
              generalize wx = w9 at *
              have SG := hide (qsign_any QQ.out.2)
              obtain ⟨-, -, -, -, -, -, ⟨p0, p1⟩, -⟩ := P.out
              rw [HB.out, show zsg 0 = 0 from rfl] at SG
              go_wp2_with fail
              refine SG.out.mono ?_
              rintro e w10 ⟨rfl, bx⟩
              replace P := hide ((And.intro (P.out.1.step bx) (And.intro (P.out.2.1.step bx) (And.intro (P.out.2.2.1.step bx) (And.intro (P.out.2.2.2.1.step bx) (And.intro (P.out.2.2.2.2.1.step bx) (And.intro (P.out.2.2.2.2.2.1.step bx) (And.intro (P.out.2.2.2.2.2.2.1.step bx) (P.out.2.2.2.2.2.2.2.step bx)))))))))
              replace R := hide ((And.intro (R.out.1.step bx) (And.intro (R.out.2.1.step bx) (And.intro (R.out.2.2.1.step bx) (R.out.2.2.2.step bx)))))
              replace QQ := hide (And.intro (QQ.out.1.step bx) (QQ.out.2.step bx))
              replace C9 := hide (C9.out.step bx)
              replace BB := hide (Below.step1 BB.out bx)
              replace B := hide (Below.step B.out B.out.size bx)
              clear bx p0 p1 SG
              obtain ⟨-, -, -, -, ⟨p0, p1, p2⟩, -⟩ := P.out
              go_wp2_with fail
              refine (rsame_zero _).mono ?_
              rintro e w11 ⟨rfl, bx⟩
              replace B := hide (Below.step B.out B.out.size bx)
              clear bx
              go_wp2_with fail
              go_ret
              exact ⟨rfl, B.out⟩
          refine wpAnyH_with 3 #[true, true, true, true, true, false, false, false] (fun a W => ∃ (se : Bool) (Ae : Option Addr) (ne ce : Nat) (sf : Bool) (Af : Option Addr) (nf cf : Nat) (h0 : Nat), a = ⟨#[zv sa (.slice Aa na ca), zv sb (.slice Ab nb cb), .pointer (some ⟨w.heap.size, 0, none⟩), .pointer (some ⟨w.heap.size + 1, 0, none⟩), .bool false, .pointer (some ⟨g0, 0, none⟩), .pointer (some ⟨g1, 0, none⟩), .pointer (some ⟨g7, 0, none⟩), .int .i64 3, .pointer (some ⟨h0, 0, none⟩), undef, undef, undef, .bool true, .bool false, .pointer (some ⟨w.heap.size, 1, none⟩), .slice Aa na ca, .int .i64 ((na : Nat) : Int), .bool false, .bool false, .pointer (some ⟨w.heap.size + 1, 1, none⟩), .slice Ab nb cb, .int .i64 ((nb : Nat) : Int), .bool false, .bool false, zv sa (.slice Aa na ca), zv sa (.slice Ax nx cx), zv sb (.slice Ab nb cb), zv sb (.slice Ay ny cy), .tuple #[rv false (.slice none 0 0) (.slice none 0 0), .int .i64 3], zv sa (.slice Ax nx cx), zv sb (.slice Ay ny cy), .tuple #[rv false (.slice none 0 0) (.slice none 0 0), .int .i64 3], rv false (.slice none 0 0) (.slice none 0 0), .int .i64 3, zv sa (.slice Aa na ca), zv se (.slice Ae ne ce), zv sb (.slice Ab nb cb), zv sf (.slice Af nf cf), undef, undef, undef, undef, undef, undef, undef, undef, undef, undef, undef, undef, undef, undef, undef, undef, undef, undef, undef, undef, undef, undef, undef, undef, undef, undef, undef, undef, undef, undef, undef, undef, undef, undef, undef, undef, undef, undef, undef, undef, undef, undef, undef, undef, undef, undef, undef, undef, undef, undef, undef, undef, undef, undef, undef], []⟩ ∧ Sg w5.drew.heap.size w5.drew W [qblk, qblk] [some h0, none] (fun W => ((True ∧ Qi W (zv se (.slice Ae ne ce)) ai (5 * 8)) ∧ Qi W (zv sf (.slice Af nf cf)) bi (5 * 8)))) ?_ (fun Hs210 => ?_)
          · rintro a W ⟨se, Ae, ne, ce, sf, Af, nf, cf, h0, rfl, st0⟩
            have hHeld := st0.1
            have st := hide st0
            clear st0
            refine wpAnyH_ready (rs := [5]) (by kernel_rfl) (by simp) ?_
            refine AllReadyH.cons rfl (fun K hK => ?_) ?_
            · go_simp
              have st2 := Sg.make st.out (Firm2.and (Firm2.and Firm2.yes (Firm2.qi _ _ _)) (Firm2.qi _ _ _)) 1 _ rfl (by simp)
              refine hK.out _ _ st2.1 (fun hHeld => ?_)
              (try simp only [Act.put, List.setIfInBounds_toArray, List.set_cons_zero, List.set_cons_succ])
              exact Hs211.out _ _ ⟨se, Ae, ne, ce, sf, Af, nf, cf, h0, W.heap.size, rfl, st2⟩
            exact AllReadyH.nil
          refine wpAnyH_with 3 #[true, true, true, true, false, true, false, false] (fun a W => ∃ (se : Bool) (Ae : Option Addr) (ne ce : Nat) (sf : Bool) (Af : Option Addr) (nf cf : Nat) (h1 : Nat), a = ⟨#[zv sa (.slice Aa na ca), zv sb (.slice Ab nb cb), .pointer (some ⟨w.heap.size, 0, none⟩), .pointer (some ⟨w.heap.size + 1, 0, none⟩), .bool false, .pointer (some ⟨g0, 0, none⟩), .pointer (some ⟨g1, 0, none⟩), .pointer (some ⟨g7, 0, none⟩), .int .i64 3, undef, .pointer (some ⟨h1, 0, none⟩), undef, undef, .bool true, .bool false, .pointer (some ⟨w.heap.size, 1, none⟩), .slice Aa na ca, .int .i64 ((na : Nat) : Int), .bool false, .bool false, .pointer (some ⟨w.heap.size + 1, 1, none⟩), .slice Ab nb cb, .int .i64 ((nb : Nat) : Int), .bool false, .bool false, zv sa (.slice Aa na ca), zv sa (.slice Ax nx cx), zv sb (.slice Ab nb cb), zv sb (.slice Ay ny cy), .tuple #[rv false (.slice none 0 0) (.slice none 0 0), .int .i64 3], zv sa (.slice Ax nx cx), zv sb (.slice Ay ny cy), .tuple #[rv false (.slice none 0 0) (.slice none 0 0), .int .i64 3], rv false (.slice none 0 0) (.slice none 0 0), .int .i64 3, zv sa (.slice Aa na ca), zv se (.slice Ae ne ce), zv sb (.slice Ab nb cb), zv sf (.slice Af nf cf), undef, undef, undef, undef, undef, undef, undef, undef, undef, undef, undef, undef, undef, undef, undef, undef, undef, undef, undef, undef, undef, undef, undef, undef, undef, undef, undef, undef, undef, undef, undef, undef, undef, undef, undef, undef, undef, undef, undef, undef, undef, undef, undef, undef, undef, undef, undef, undef, undef, undef, undef, undef, undef, undef, undef], []⟩ ∧ Sg w5.drew.heap.size w5.drew W [qblk, qblk] [none, some h1] (fun W => ((True ∧ Qi W (zv se (.slice Ae ne ce)) ai (5 * 8)) ∧ Qi W (zv sf (.slice Af nf cf)) bi (5 * 8)))) ?_ (fun Hs201 => ?_)
          · rintro a W ⟨se, Ae, ne, ce, sf, Af, nf, cf, h1, rfl, st0⟩
            have hHeld := st0.1
            have st := hide st0
            clear st0
            refine wpAnyH_ready (rs := [4]) (by kernel_rfl) (by simp) ?_
            refine AllReadyH.cons rfl (fun K hK => ?_) ?_
            · go_simp
              have st2 := Sg.make st.out (Firm2.and (Firm2.and Firm2.yes (Firm2.qi _ _ _)) (Firm2.qi _ _ _)) 0 _ rfl (by simp)
              refine hK.out _ _ st2.1 (fun hHeld => ?_)
              (try simp only [Act.put, List.setIfInBounds_toArray, List.set_cons_zero, List.set_cons_succ])
              exact Hs211.out _ _ ⟨se, Ae, ne, ce, sf, Af, nf, cf, W.heap.size, h1, rfl, st2⟩
            exact AllReadyH.nil
          refine wpAnyH_with 4 #[true, true, true, true, false, false, false, false] (fun a W => ∃ (se : Bool) (Ae : Option Addr) (ne ce : Nat) (sf : Bool) (Af : Option Addr) (nf cf : Nat), a = ⟨#[zv sa (.slice Aa na ca), zv sb (.slice Ab nb cb), .pointer (some ⟨w.heap.size, 0, none⟩), .pointer (some ⟨w.heap.size + 1, 0, none⟩), .bool false, .pointer (some ⟨g0, 0, none⟩), .pointer (some ⟨g1, 0, none⟩), .pointer (some ⟨g7, 0, none⟩), .int .i64 3, undef, undef, undef, undef, .bool true, .bool false, .pointer (some ⟨w.heap.size, 1, none⟩), .slice Aa na ca, .int .i64 ((na : Nat) : Int), .bool false, .bool false, .pointer (some ⟨w.heap.size + 1, 1, none⟩), .slice Ab nb cb, .int .i64 ((nb : Nat) : Int), .bool false, .bool false, zv sa (.slice Aa na ca), zv sa (.slice Ax nx cx), zv sb (.slice Ab nb cb), zv sb (.slice Ay ny cy), .tuple #[rv false (.slice none 0 0) (.slice none 0 0), .int .i64 3], zv sa (.slice Ax nx cx), zv sb (.slice Ay ny cy), .tuple #[rv false (.slice none 0 0) (.slice none 0 0), .int .i64 3], rv false (.slice none 0 0) (.slice none 0 0), .int .i64 3, zv sa (.slice Aa na ca), zv se (.slice Ae ne ce), zv sb (.slice Ab nb cb), zv sf (.slice Af nf cf), undef, undef, undef, undef, undef, undef, undef, undef, undef, undef, undef, undef, undef, undef, undef, undef, undef, undef, undef, undef, undef, undef, undef, undef, undef, undef, undef, undef, undef, undef, undef, undef, undef, undef, undef, undef, undef, undef, undef, undef, undef, undef, undef, undef, undef, undef, undef, undef, undef, undef, undef, undef, undef, undef, undef], []⟩ ∧ Sg w5.drew.heap.size w5.drew W [qblk, qblk] [none, none] (fun W => ((True ∧ Qi W (zv se (.slice Ae ne ce)) ai (5 * 8)) ∧ Qi W (zv sf (.slice Af nf cf)) bi (5 * 8)))) ?_ (fun Hs200 => ?_)
          · rintro a W ⟨se, Ae, ne, ce, sf, Af, nf, cf, rfl, st0⟩
            have hHeld := st0.1
            have st := hide st0
            clear st0
            refine wpAnyH_ready (rs := [4, 5]) (by kernel_rfl) (by simp) ?_
            refine AllReadyH.cons rfl (fun K hK => ?_) ?_
            · go_simp
              have st2 := Sg.make st.out (Firm2.and (Firm2.and Firm2.yes (Firm2.qi _ _ _)) (Firm2.qi _ _ _)) 0 _ rfl (by simp)
              refine hK.out _ _ st2.1 (fun hHeld => ?_)
              (try simp only [Act.put, List.setIfInBounds_toArray, List.set_cons_zero, List.set_cons_succ])
              exact Hs210.out _ _ ⟨se, Ae, ne, ce, sf, Af, nf, cf, W.heap.size, rfl, st2⟩
            refine AllReadyH.cons rfl (fun K hK => ?_) ?_
            · go_simp
              have st2 := Sg.make st.out (Firm2.and (Firm2.and Firm2.yes (Firm2.qi _ _ _)) (Firm2.qi _ _ _)) 1 _ rfl (by simp)
              refine hK.out _ _ st2.1 (fun hHeld => ?_)
              (try simp only [Act.put, List.setIfInBounds_toArray, List.set_cons_zero, List.set_cons_succ])
              exact Hs201.out _ _ ⟨se, Ae, ne, ce, sf, Af, nf, cf, W.heap.size, rfl, st2⟩
            exact AllReadyH.nil
          refine wpAnyH_with 3 #[true, true, true, false, true, true, false, false] (fun a W => ∃ (se : Bool) (Ae : Option Addr) (ne ce : Nat) (h0 : Nat) (h1 : Nat), a = ⟨#[zv sa (.slice Aa na ca), zv sb (.slice Ab nb cb), .pointer (some ⟨w.heap.size, 0, none⟩), .pointer (some ⟨w.heap.size + 1, 0, none⟩), .bool false, .pointer (some ⟨g0, 0, none⟩), .pointer (some ⟨g1, 0, none⟩), .pointer (some ⟨g7, 0, none⟩), .int .i64 3, .pointer (some ⟨h0, 0, none⟩), .pointer (some ⟨h1, 0, none⟩), undef, undef, .bool true, .bool false, .pointer (some ⟨w.heap.size, 1, none⟩), .slice Aa na ca, .int .i64 ((na : Nat) : Int), .bool false, .bool false, .pointer (some ⟨w.heap.size + 1, 1, none⟩), .slice Ab nb cb, .int .i64 ((nb : Nat) : Int), .bool false, .bool false, zv sa (.slice Aa na ca), zv sa (.slice Ax nx cx), zv sb (.slice Ab nb cb), zv sb (.slice Ay ny cy), .tuple #[rv false (.slice none 0 0) (.slice none 0 0), .int .i64 3], zv sa (.slice Ax nx cx), zv sb (.slice Ay ny cy), .tuple #[rv false (.slice none 0 0) (.slice none 0 0), .int .i64 3], rv false (.slice none 0 0) (.slice none 0 0), .int .i64 3, zv sa (.slice Aa na ca), zv se (.slice Ae ne ce), zv sb (.slice Ab nb cb), undef, undef, undef, undef, undef, undef, undef, undef, undef, undef, undef, undef, undef, undef, undef, undef, undef, undef, undef, undef, undef, undef, undef, undef, undef, undef, undef, undef, undef, undef, undef, undef, undef, undef, undef, undef, undef, undef, undef, undef, undef, undef, undef, undef, undef, undef, undef, undef, undef, undef, undef, undef, undef, undef, undef, undef], []⟩ ∧ Sg w5.drew.heap.size w5.drew W [qblk, qblk] [some h0, some h1] (fun W => (True ∧ Qi W (zv se (.slice Ae ne ce)) ai (5 * 8)))) ?_ (fun Hs111 => ?_)
          · rintro a W ⟨se, Ae, ne, ce, h0, h1, rfl, st0⟩
            have hHeld := st0.1
            have st := hide st0
            clear st0
            refine wpAnyH_ready (rs := [3]) (by kernel_rfl) (by simp) ?_
            refine AllReadyH.cons rfl (fun K hK => ?_) ?_
            · go_simp
              go_at_call 13
              refine Calls.mono (qof_any (L := 8) (HBB.out _ _ _ _ (R.out.2.1.step st.out.1)) (by omega)) ?_
              rintro e wx ⟨v9, rfl, tx, bx⟩
              obtain ⟨sf, xf, Af, nf, cf, rfl, -, -, -⟩ := id tx.parts
              try dsimp only
              have st2 := Sg.call (G := fun W => Qi W (zv sf (.slice Af nf cf)) bi (5 * 8)) st.out bx (Firm2.and Firm2.yes (Firm2.qi _ _ _)) tx
              have hSt := hide st2
              refine hK.out _ _ st2.1 (fun hHeld => ?_)
              clear hK K st2
              (try simp only [Act.put, List.setIfInBounds_toArray, List.set_cons_zero, List.set_cons_succ])
              exact Hs211.out _ _ ⟨se, Ae, ne, ce, sf, Af, nf, cf, h0, h1, rfl, hSt.out⟩
            exact AllReadyH.nil
          refine wpAnyH_with 4 #[true, true, true, false, true, false, false, false] (fun a W => ∃ (se : Bool) (Ae : Option Addr) (ne ce : Nat) (h0 : Nat), a = ⟨#[zv sa (.slice Aa na ca), zv sb (.slice Ab nb cb), .pointer (some ⟨w.heap.size, 0, none⟩), .pointer (some ⟨w.heap.size + 1, 0, none⟩), .bool false, .pointer (some ⟨g0, 0, none⟩), .pointer (some ⟨g1, 0, none⟩), .pointer (some ⟨g7, 0, none⟩), .int .i64 3, .pointer (some ⟨h0, 0, none⟩), undef, undef, undef, .bool true, .bool false, .pointer (some ⟨w.heap.size, 1, none⟩), .slice Aa na ca, .int .i64 ((na : Nat) : Int), .bool false, .bool false, .pointer (some ⟨w.heap.size + 1, 1, none⟩), .slice Ab nb cb, .int .i64 ((nb : Nat) : Int), .bool false, .bool false, zv sa (.slice Aa na ca), zv sa (.slice Ax nx cx), zv sb (.slice Ab nb cb), zv sb (.slice Ay ny cy), .tuple #[rv false (.slice none 0 0) (.slice none 0 0), .int .i64 3], zv sa (.slice Ax nx cx), zv sb (.slice Ay ny cy), .tuple #[rv false (.slice none 0 0) (.slice none 0 0), .int .i64 3], rv false (.slice none 0 0) (.slice none 0 0), .int .i64 3, zv sa (.slice Aa na ca), zv se (.slice Ae ne ce), zv sb (.slice Ab nb cb), undef, undef, undef, undef, undef, undef, undef, undef, undef, undef, undef, undef, undef, undef, undef, undef, undef, undef, undef, undef, undef, undef, undef, undef, undef, undef, undef, undef, undef, undef, undef, undef, undef, undef, undef, undef, undef, undef, undef, undef, undef, undef, undef, undef, undef, undef, undef, undef, undef, undef, undef, undef, undef, undef, undef, undef], []⟩ ∧ Sg w5.drew.heap.size w5.drew W [qblk, qblk] [some h0, none] (fun W => (True ∧ Qi W (zv se (.slice Ae ne ce)) ai (5 * 8)))) ?_ (fun Hs110 => ?_)
          · rintro a W ⟨se, Ae, ne, ce, h0, rfl, st0⟩
            have hHeld := st0.1
            have st := hide st0
            clear st0
            refine wpAnyH_ready (rs := [3, 5]) (by kernel_rfl) (by simp) ?_
            refine AllReadyH.cons rfl (fun K hK => ?_) ?_
            · go_simp
              go_at_call 13
              refine Calls.mono (qof_any (L := 8) (HBB.out _ _ _ _ (R.out.2.1.step st.out.1)) (by omega)) ?_
              rintro e wx ⟨v9, rfl, tx, bx⟩
              obtain ⟨sf, xf, Af, nf, cf, rfl, -, -, -⟩ := id tx.parts
              try dsimp only
              have st2 := Sg.call (G := fun W => Qi W (zv sf (.slice Af nf cf)) bi (5 * 8)) st.out bx (Firm2.and Firm2.yes (Firm2.qi _ _ _)) tx
              have hSt := hide st2
              refine hK.out _ _ st2.1 (fun hHeld => ?_)
              clear hK K st2
              (try simp only [Act.put, List.setIfInBounds_toArray, List.set_cons_zero, List.set_cons_succ])
              exact Hs210.out _ _ ⟨se, Ae, ne, ce, sf, Af, nf, cf, h0, rfl, hSt.out⟩
            refine AllReadyH.cons rfl (fun K hK => ?_) ?_
            · go_simp
              have st2 := Sg.make st.out (Firm2.and Firm2.yes (Firm2.qi _ _ _)) 1 _ rfl (by simp)
              refine hK.out _ _ st2.1 (fun hHeld => ?_)
              (try simp only [Act.put, List.setIfInBounds_toArray, List.set_cons_zero, List.set_cons_succ])
              exact Hs111.out _ _ ⟨se, Ae, ne, ce, h0, W.heap.size, rfl, st2⟩
            exact AllReadyH.nil
          refine wpAnyH_with 4 #[true, true, true, false, false, true, false, false] (fun a W => ∃ (se : Bool) (Ae : Option Addr) (ne ce : Nat) (h1 : Nat), a = ⟨#[zv sa (.slice Aa na ca), zv sb (.slice Ab nb cb), .pointer (some ⟨w.heap.size, 0, none⟩), .pointer (some ⟨w.heap.size + 1, 0, none⟩), .bool false, .pointer (some ⟨g0, 0, none⟩), .pointer (some ⟨g1, 0, none⟩), .pointer (some ⟨g7, 0, none⟩), .int .i64 3, undef, .pointer (some ⟨h1, 0, none⟩), undef, undef, .bool true, .bool false, .pointer (some ⟨w.heap.size, 1, none⟩), .slice Aa na ca, .int .i64 ((na : Nat) : Int), .bool false, .bool false, .pointer (some ⟨w.heap.size + 1, 1, none⟩), .slice Ab nb cb, .int .i64 ((nb : Nat) : Int), .bool false, .bool false, zv sa (.slice Aa na ca), zv sa (.slice Ax nx cx), zv sb (.slice Ab nb cb), zv sb (.slice Ay ny cy), .tuple #[rv false (.slice none 0 0) (.slice none 0 0), .int .i64 3], zv sa (.slice Ax nx cx), zv sb (.slice Ay ny cy), .tuple #[rv false (.slice none 0 0) (.slice none 0 0), .int .i64 3], rv false (.slice none 0 0) (.slice none 0 0), .int .i64 3, zv sa (.slice Aa na ca), zv se (.slice Ae ne ce), zv sb (.slice Ab nb cb), undef, undef, undef, undef, undef, undef, undef, undef, undef, undef, undef, undef, undef, undef, undef, undef, undef, undef, undef, undef, undef, undef, undef, undef, undef, undef, undef, undef, undef, undef, undef, undef, undef, undef, undef, undef, undef, undef, undef, undef, undef, undef, undef, undef, undef, undef, undef, undef, undef, undef, undef, undef, undef, undef, undef, undef], []⟩ ∧ Sg w5.drew.heap.size w5.drew W [qblk, qblk] [none, some h1] (fun W => (True ∧ Qi W (zv se (.slice Ae ne ce)) ai (5 * 8)))) ?_ (fun Hs101 => ?_)
          · rintro a W ⟨se, Ae, ne, ce, h1, rfl, st0⟩
            have hHeld := st0.1
            have st := hide st0
            clear st0
            refine wpAnyH_ready (rs := [3, 4]) (by kernel_rfl) (by simp) ?_
            refine AllReadyH.cons rfl (fun K hK => ?_) ?_
            · go_simp
              go_at_call 13
              refine Calls.mono (qof_any (L := 8) (HBB.out _ _ _ _ (R.out.2.1.step st.out.1)) (by omega)) ?_
              rintro e wx ⟨v9, rfl, tx, bx⟩
              obtain ⟨sf, xf, Af, nf, cf, rfl, -, -, -⟩ := id tx.parts
              try dsimp only
              have st2 := Sg.call (G := fun W => Qi W (zv sf (.slice Af nf cf)) bi (5 * 8)) st.out bx (Firm2.and Firm2.yes (Firm2.qi _ _ _)) tx
              have hSt := hide st2
              refine hK.out _ _ st2.1 (fun hHeld => ?_)
              clear hK K st2
              (try simp only [Act.put, List.setIfInBounds_toArray, List.set_cons_zero, List.set_cons_succ])
              exact Hs201.out _ _ ⟨se, Ae, ne, ce, sf, Af, nf, cf, h1, rfl, hSt.out⟩
            refine AllReadyH.cons rfl (fun K hK => ?_) ?_
            · go_simp
              have st2 := Sg.make st.out (Firm2.and Firm2.yes (Firm2.qi _ _ _)) 0 _ rfl (by simp)
              refine hK.out _ _ st2.1 (fun hHeld => ?_)
              (try simp only [Act.put, List.setIfInBounds_toArray, List.set_cons_zero, List.set_cons_succ])
              exact Hs111.out _ _ ⟨se, Ae, ne, ce, W.heap.size, h1, rfl, st2⟩
            exact AllReadyH.nil
          refine wpAnyH_with 5 #[true, true, true, false, false, false, false, false] (fun a W => ∃ (se : Bool) (Ae : Option Addr) (ne ce : Nat), a = ⟨#[zv sa (.slice Aa na ca), zv sb (.slice Ab nb cb), .pointer (some ⟨w.heap.size, 0, none⟩), .pointer (some ⟨w.heap.size + 1, 0, none⟩), .bool false, .pointer (some ⟨g0, 0, none⟩), .pointer (some ⟨g1, 0, none⟩), .pointer (some ⟨g7, 0, none⟩), .int .i64 3, undef, undef, undef, undef, .bool true, .bool false, .pointer (some ⟨w.heap.size, 1, none⟩), .slice Aa na ca, .int .i64 ((na : Nat) : Int), .bool false, .bool false, .pointer (some ⟨w.heap.size + 1, 1, none⟩), .slice Ab nb cb, .int .i64 ((nb : Nat) : Int), .bool false, .bool false, zv sa (.slice Aa na ca), zv sa (.slice Ax nx cx), zv sb (.slice Ab nb cb), zv sb (.slice Ay ny cy), .tuple #[rv false (.slice none 0 0) (.slice none 0 0), .int .i64 3], zv sa (.slice Ax nx cx), zv sb (.slice Ay ny cy), .tuple #[rv false (.slice none 0 0) (.slice none 0 0), .int .i64 3], rv false (.slice none 0 0) (.slice none 0 0), .int .i64 3, zv sa (.slice Aa na ca), zv se (.slice Ae ne ce), zv sb (.slice Ab nb cb), undef, undef, undef, undef, undef, undef, undef, undef, undef, undef, undef, undef, undef, undef, undef, undef, undef, undef, undef, undef, undef, undef, undef, undef, undef, undef, undef, undef, undef, undef, undef, undef, undef, undef, undef, undef, undef, undef, undef, undef, undef, undef, undef, undef, undef, undef, undef, undef, undef, undef, undef, undef, undef, undef, undef, undef], []⟩ ∧ Sg w5.drew.heap.size w5.drew W [qblk, qblk] [none, none] (fun W => (True ∧ Qi W (zv se (.slice Ae ne ce)) ai (5 * 8)))) ?_ (fun Hs100 => ?_)
          · rintro a W ⟨se, Ae, ne, ce, rfl, st0⟩
            have hHeld := st0.1
            have st := hide st0
            clear st0
            refine wpAnyH_ready (rs := [3, 4, 5]) (by kernel_rfl) (by simp) ?_
            refine AllReadyH.cons rfl (fun K hK => ?_) ?_
            · go_simp
              go_at_call 13
              refine Calls.mono (qof_any (L := 8) (HBB.out _ _ _ _ (R.out.2.1.step st.out.1)) (by omega)) ?_
              rintro e wx ⟨v9, rfl, tx, bx⟩
              obtain ⟨sf, xf, Af, nf, cf, rfl, -, -, -⟩ := id tx.parts
              try dsimp only
              have st2 := Sg.call (G := fun W => Qi W (zv sf (.slice Af nf cf)) bi (5 * 8)) st.out bx (Firm2.and Firm2.yes (Firm2.qi _ _ _)) tx
              have hSt := hide st2
              refine hK.out _ _ st2.1 (fun hHeld => ?_)
              clear hK K st2
              (try simp only [Act.put, List.setIfInBounds_toArray, List.set_cons_zero, List.set_cons_succ])
              exact Hs200.out _ _ ⟨se, Ae, ne, ce, sf, Af, nf, cf, rfl, hSt.out⟩
            refine AllReadyH.cons rfl (fun K hK => ?_) ?_
            · go_simp
              have st2 := Sg.make st.out (Firm2.and Firm2.yes (Firm2.qi _ _ _)) 0 _ rfl (by simp)
              refine hK.out _ _ st2.1 (fun hHeld => ?_)
              (try simp only [Act.put, List.setIfInBounds_toArray, List.set_cons_zero, List.set_cons_succ])
              exact Hs110.out _ _ ⟨se, Ae, ne, ce, W.heap.size, rfl, st2⟩
            refine AllReadyH.cons rfl (fun K hK => ?_) ?_
            · go_simp
              have st2 := Sg.make st.out (Firm2.and Firm2.yes (Firm2.qi _ _ _)) 1 _ rfl (by simp)
              refine hK.out _ _ st2.1 (fun hHeld => ?_)
              (try simp only [Act.put, List.setIfInBounds_toArray, List.set_cons_zero, List.set_cons_succ])
              exact Hs101.out _ _ ⟨se, Ae, ne, ce, W.heap.size, rfl, st2⟩
            exact AllReadyH.nil
          refine wpAnyH_with 4 #[true, false, true, false, true, true, false, false] (fun a W => ∃ (h0 : Nat) (h1 : Nat), a = ⟨#[zv sa (.slice Aa na ca), zv sb (.slice Ab nb cb), .pointer (some ⟨w.heap.size, 0, none⟩), .pointer (some ⟨w.heap.size + 1, 0, none⟩), .bool false, .pointer (some ⟨g0, 0, none⟩), .pointer (some ⟨g1, 0, none⟩), .pointer (some ⟨g7, 0, none⟩), .int .i64 3, .pointer (some ⟨h0, 0, none⟩), .pointer (some ⟨h1, 0, none⟩), undef, undef, .bool true, .bool false, .pointer (some ⟨w.heap.size, 1, none⟩), .slice Aa na ca, .int .i64 ((na : Nat) : Int), .bool false, .bool false, .pointer (some ⟨w.heap.size + 1, 1, none⟩), .slice Ab nb cb, .int .i64 ((nb : Nat) : Int), .bool false, .bool false, zv sa (.slice Aa na ca), zv sa (.slice Ax nx cx), zv sb (.slice Ab nb cb), zv sb (.slice Ay ny cy), .tuple #[rv false (.slice none 0 0) (.slice none 0 0), .int .i64 3], zv sa (.slice Ax nx cx), zv sb (.slice Ay ny cy), .tuple #[rv false (.slice none 0 0) (.slice none 0 0), .int .i64 3], rv false (.slice none 0 0) (.slice none 0 0), .int .i64 3, zv sa (.slice Aa na ca), undef, zv sb (.slice Ab nb cb), undef, undef, undef, undef, undef, undef, undef, undef, undef, undef, undef, undef, undef, undef, undef, undef, undef, undef, undef, undef, undef, undef, undef, undef, undef, undef, undef, undef, undef, undef, undef, undef, undef, undef, undef, undef, undef, undef, undef, undef, undef, undef, undef, undef, undef, undef, undef, undef, undef, undef, undef, undef, undef, undef, undef, undef], []⟩ ∧ Sg w5.drew.heap.size w5.drew W [qblk, qblk] [some h0, some h1] (fun W => True)) ?_ (fun Hs011 => ?_)
          · rintro a W ⟨h0, h1, rfl, st0⟩
            have hHeld := st0.1
            have st := hide st0
            clear st0
            refine wpAnyH_ready (rs := [1]) (by kernel_rfl) (by simp) ?_
            refine AllReadyH.cons rfl (fun K hK => ?_) ?_
            · go_simp
              go_at_call 13
              refine Calls.mono (qof_any (L := 8) (HA.out _ _ _ _ (R.out.1.step st.out.1)) (by omega)) ?_
              rintro e wx ⟨v9, rfl, tx, bx⟩
              obtain ⟨se, xe, Ae, ne, ce, rfl, -, -, -⟩ := id tx.parts
              try dsimp only
              have st2 := Sg.call (G := fun W => Qi W (zv se (.slice Ae ne ce)) ai (5 * 8)) st.out bx Firm2.yes tx
              have hSt := hide st2
              refine hK.out _ _ st2.1 (fun hHeld => ?_)
              clear hK K st2
              (try simp only [Act.put, List.setIfInBounds_toArray, List.set_cons_zero, List.set_cons_succ])
              exact Hs111.out _ _ ⟨se, Ae, ne, ce, h0, h1, rfl, hSt.out⟩
            exact AllReadyH.nil
          refine wpAnyH_with 5 #[true, false, true, false, true, false, false, false] (fun a W => ∃ (h0 : Nat), a = ⟨#[zv sa (.slice Aa na ca), zv sb (.slice Ab nb cb), .pointer (some ⟨w.heap.size, 0, none⟩), .pointer (some ⟨w.heap.size + 1, 0, none⟩), .bool false, .pointer (some ⟨g0, 0, none⟩), .pointer (some ⟨g1, 0, none⟩), .pointer (some ⟨g7, 0, none⟩), .int .i64 3, .pointer (some ⟨h0, 0, none⟩), undef, undef, undef, .bool true, .bool false, .pointer (some ⟨w.heap.size, 1, none⟩), .slice Aa na ca, .int .i64 ((na : Nat) : Int), .bool false, .bool false, .pointer (some ⟨w.heap.size + 1, 1, none⟩), .slice Ab nb cb, .int .i64 ((nb : Nat) : Int), .bool false, .bool false, zv sa (.slice Aa na ca), zv sa (.slice Ax nx cx), zv sb (.slice Ab nb cb), zv sb (.slice Ay ny cy), .tuple #[rv false (.slice none 0 0) (.slice none 0 0), .int .i64 3], zv sa (.slice Ax nx cx), zv sb (.slice Ay ny cy), .tuple #[rv false (.slice none 0 0) (.slice none 0 0), .int .i64 3], rv false (.slice none 0 0) (.slice none 0 0), .int .i64 3, zv sa (.slice Aa na ca), undef, zv sb (.slice Ab nb cb), undef, undef, undef, undef, undef, undef, undef, undef, undef, undef, undef, undef, undef, undef, undef, undef, undef, undef, undef, undef, undef, undef, undef, undef, undef, undef, undef, undef, undef, undef, undef, undef, undef, undef, undef, undef, undef, undef, undef, undef, undef, undef, undef, undef, undef, undef, undef, undef, undef, undef, undef, undef, undef, undef, undef, undef], []⟩ ∧ Sg w5.drew.heap.size w5.drew W [qblk, qblk] [some h0, none] (fun W => True)) ?_ (fun Hs010 => ?_)
          · rintro a W ⟨h0, rfl, st0⟩
            have hHeld := st0.1
            have st := hide st0
            clear st0
            refine wpAnyH_ready (rs := [1, 5]) (by kernel_rfl) (by simp) ?_
            refine AllReadyH.cons rfl (fun K hK => ?_) ?_
            · go_simp
              go_at_call 13
              refine Calls.mono (qof_any (L := 8) (HA.out _ _ _ _ (R.out.1.step st.out.1)) (by omega)) ?_
              rintro e wx ⟨v9, rfl, tx, bx⟩
              obtain ⟨se, xe, Ae, ne, ce, rfl, -, -, -⟩ := id tx.parts
              try dsimp only
              have st2 := Sg.call (G := fun W => Qi W (zv se (.slice Ae ne ce)) ai (5 * 8)) st.out bx Firm2.yes tx
              have hSt := hide st2
              refine hK.out _ _ st2.1 (fun hHeld => ?_)
              clear hK K st2
              (try simp only [Act.put, List.setIfInBounds_toArray, List.set_cons_zero, List.set_cons_succ])
              exact Hs110.out _ _ ⟨se, Ae, ne, ce, h0, rfl, hSt.out⟩
            refine AllReadyH.cons rfl (fun K hK => ?_) ?_
            · go_simp
              have st2 := Sg.make st.out Firm2.yes 1 _ rfl (by simp)
              refine hK.out _ _ st2.1 (fun hHeld => ?_)
              (try simp only [Act.put, List.setIfInBounds_toArray, List.set_cons_zero, List.set_cons_succ])
              exact Hs011.out _ _ ⟨h0, W.heap.size, rfl, st2⟩
            exact AllReadyH.nil
          refine wpAnyH_with 5 #[true, false, true, false, false, true, false, false] (fun a W => ∃ (h1 : Nat), a = ⟨#[zv sa (.slice Aa na ca), zv sb (.slice Ab nb cb), .pointer (some ⟨w.heap.size, 0, none⟩), .pointer (some ⟨w.heap.size + 1, 0, none⟩), .bool false, .pointer (some ⟨g0, 0, none⟩), .pointer (some ⟨g1, 0, none⟩), .pointer (some ⟨g7, 0, none⟩), .int .i64 3, undef, .pointer (some ⟨h1, 0, none⟩), undef, undef, .bool true, .bool false, .pointer (some ⟨w.heap.size, 1, none⟩), .slice Aa na ca, .int .i64 ((na : Nat) : Int), .bool false, .bool false, .pointer (some ⟨w.heap.size + 1, 1, none⟩), .slice Ab nb cb, .int .i64 ((nb : Nat) : Int), .bool false, .bool false, zv sa (.slice Aa na ca), zv sa (.slice Ax nx cx), zv sb (.slice Ab nb cb), zv sb (.slice Ay ny cy), .tuple #[rv false (.slice none 0 0) (.slice none 0 0), .int .i64 3], zv sa (.slice Ax nx cx), zv sb (.slice Ay ny cy), .tuple #[rv false (.slice none 0 0) (.slice none 0 0), .int .i64 3], rv false (.slice none 0 0) (.slice none 0 0), .int .i64 3, zv sa (.slice Aa na ca), undef, zv sb (.slice Ab nb cb), undef, undef, undef, undef, undef, undef, undef, undef, undef, undef, undef, undef, undef, undef, undef, undef, undef, undef, undef, undef, undef, undef, undef, undef, undef, undef, undef, undef, undef, undef, undef, undef, undef, undef, undef, undef, undef, undef, undef, undef, undef, undef, undef, undef, undef, undef, undef, undef, undef, undef, undef, undef, undef, undef, undef, undef], []⟩ ∧ Sg w5.drew.heap.size w5.drew W [qblk, qblk] [none, some h1] (fun W => True)) ?_ (fun Hs001 => ?_)
          · rintro a W ⟨h1, rfl, st0⟩
            have hHeld := st0.1
            have st := hide st0
            clear st0
            refine wpAnyH_ready (rs := [1, 4]) (by kernel_rfl) (by simp) ?_
            refine AllReadyH.cons rfl (fun K hK => ?_) ?_
            · go_simp
              go_at_call 13
              refine Calls.mono (qof_any (L := 8) (HA.out _ _ _ _ (R.out.1.step st.out.1)) (by omega)) ?_
              rintro e wx ⟨v9, rfl, tx, bx⟩
              obtain ⟨se, xe, Ae, ne, ce, rfl, -, -, -⟩ := id tx.parts
              try dsimp only
              have st2 := Sg.call (G := fun W => Qi W (zv se (.slice Ae ne ce)) ai (5 * 8)) st.out bx Firm2.yes tx
              have hSt := hide st2
              refine hK.out _ _ st2.1 (fun hHeld => ?_)
              clear hK K st2
              (try simp only [Act.put, List.setIfInBounds_toArray, List.set_cons_zero, List.set_cons_succ])
              exact Hs101.out _ _ ⟨se, Ae, ne, ce, h1, rfl, hSt.out⟩
            refine AllReadyH.cons rfl (fun K hK => ?_) ?_
            · go_simp
              have st2 := Sg.make st.out Firm2.yes 0 _ rfl (by simp)
              refine hK.out _ _ st2.1 (fun hHeld => ?_)
              (try simp only [Act.put, List.setIfInBounds_toArray, List.set_cons_zero, List.set_cons_succ])
              exact Hs011.out _ _ ⟨W.heap.size, h1, rfl, st2⟩
            exact AllReadyH.nil
          refine wpAnyH_take (i := 0) (v := ?_) rfl (by kernel_rfl) (by kernel_rfl) (by kernel_rfl) (fun _ _ _ h => h) (Or.inl ⟨?_, ?_⟩) (by assumption) ?_
          rotate_left
          · rfl
          · (intro w hSw; have e0 := cell_keep P.out.1.1 hSw; have e1 := cell_keep P.out.1.2 hSw; go_simp; try with_reducible rfl)
          (try simp only [Act.put, List.setIfInBounds_toArray, List.set_cons_zero, List.set_cons_succ])
          refine wpAnyH_take (i := 2) (v := ?_) rfl (by kernel_rfl) (by kernel_rfl) (by kernel_rfl) (fun _ _ _ h => h) (Or.inl ⟨?_, ?_⟩) (by assumption) ?_
          rotate_left
          · rfl
          · (intro w hSw; have e0 := cell_keep P.out.2.1.1 hSw; have e1 := cell_keep P.out.2.1.2 hSw; go_simp; try with_reducible rfl)
          (try simp only [Act.put, List.setIfInBounds_toArray, List.set_cons_zero, List.set_cons_succ])
          refine wpAnyH_with 6 #[true, false, true, false, false, false, false, false] (fun a W => a = ⟨#[zv sa (.slice Aa na ca), zv sb (.slice Ab nb cb), .pointer (some ⟨w.heap.size, 0, none⟩), .pointer (some ⟨w.heap.size + 1, 0, none⟩), .bool false, .pointer (some ⟨g0, 0, none⟩), .pointer (some ⟨g1, 0, none⟩), .pointer (some ⟨g7, 0, none⟩), .int .i64 3, undef, undef, undef, undef, .bool true, .bool false, .pointer (some ⟨w.heap.size, 1, none⟩), .slice Aa na ca, .int .i64 ((na : Nat) : Int), .bool false, .bool false, .pointer (some ⟨w.heap.size + 1, 1, none⟩), .slice Ab nb cb, .int .i64 ((nb : Nat) : Int), .bool false, .bool false, zv sa (.slice Aa na ca), zv sa (.slice Ax nx cx), zv sb (.slice Ab nb cb), zv sb (.slice Ay ny cy), .tuple #[rv false (.slice none 0 0) (.slice none 0 0), .int .i64 3], zv sa (.slice Ax nx cx), zv sb (.slice Ay ny cy), .tuple #[rv false (.slice none 0 0) (.slice none 0 0), .int .i64 3], rv false (.slice none 0 0) (.slice none 0 0), .int .i64 3, zv sa (.slice Aa na ca), undef, zv sb (.slice Ab nb cb), undef, undef, undef, undef, undef, undef, undef, undef, undef, undef, undef, undef, undef, undef, undef, undef, undef, undef, undef, undef, undef, undef, undef, undef, undef, undef, undef, undef, undef, undef, undef, undef, undef, undef, undef, undef, undef, undef, undef, undef, undef, undef, undef, undef, undef, undef, undef, undef, undef, undef, undef, undef, undef, undef, undef, undef], []⟩ ∧ Sg w5.drew.heap.size w5.drew W [qblk, qblk] [none, none] (fun W => True)) ?_ (fun Hs => Hs.out _ _ ⟨rfl, Sg.start _ _ 2⟩)
          rintro a W ⟨rfl, st0⟩
          have hHeld := st0.1
          have st := hide st0
          clear st0
          refine wpAnyH_ready (rs := [1, 4, 5]) (by kernel_rfl) (by simp) ?_
          refine AllReadyH.cons rfl (fun K hK => ?_) ?_
          · go_simp
            go_at_call 13
            refine Calls.mono (qof_any (L := 8) (HA.out _ _ _ _ (R.out.1.step st.out.1)) (by omega)) ?_
            rintro e wx ⟨v9, rfl, tx, bx⟩
            obtain ⟨se, xe, Ae, ne, ce, rfl, -, -, -⟩ := id tx.parts
            try dsimp only
            have st2 := Sg.call (G := fun W => Qi W (zv se (.slice Ae ne ce)) ai (5 * 8)) st.out bx Firm2.yes tx
            have hSt := hide st2
            refine hK.out _ _ st2.1 (fun hHeld => ?_)
            clear hK K st2
            (try simp only [Act.put, List.setIfInBounds_toArray, List.set_cons_zero, List.set_cons_succ])
            exact Hs100.out _ _ ⟨se, Ae, ne, ce, rfl, hSt.out⟩
          refine AllReadyH.cons rfl (fun K hK => ?_) ?_
          · go_simp
            have st2 := Sg.make st.out Firm2.yes 0 _ rfl (by simp)
            refine hK.out _ _ st2.1 (fun hHeld => ?_)
            (try simp only [Act.put, List.setIfInBounds_toArray, List.set_cons_zero, List.set_cons_succ])
            exact Hs010.out _ _ ⟨W.heap.size, rfl, st2⟩
          refine AllReadyH.cons rfl (fun K hK => ?_) ?_
          · go_simp
            have st2 := Sg.make st.out Firm2.yes 1 _ rfl (by simp)
            refine hK.out _ _ st2.1 (fun hHeld => ?_)
            (try simp only [Act.put, List.setIfInBounds_toArray, List.set_cons_zero, List.set_cons_succ])
            exact Hs001.out _ _ ⟨W.heap.size, rfl, st2⟩
          exact AllReadyH.nil
        refine wpAnyH_with 3 #[true, true, true, true, true, false, false, false] (fun a W => ∃ (Ax : Option Addr) (nx cx : Nat) (Ay : Option Addr) (ny cy : Nat) (g0 : Nat), a = ⟨#[zv sa (.slice Aa na ca), zv sb (.slice Ab nb cb), .pointer (some ⟨w.heap.size, 0, none⟩), .pointer (some ⟨w.heap.size + 1, 0, none⟩), .bool false, .pointer (some ⟨g0, 0, none⟩), undef, undef, undef, undef, undef, undef, undef, .bool true, .bool false, .pointer (some ⟨w.heap.size, 1, none⟩), .slice Aa na ca, .int .i64 ((na : Nat) : Int), .bool false, .bool false, .pointer (some ⟨w.heap.size + 1, 1, none⟩), .slice Ab nb cb, .int .i64 ((nb : Nat) : Int), .bool false, .bool false, zv sa (.slice Aa na ca), zv sa (.slice Ax nx cx), zv sb (.slice Ab nb cb), zv sb (.slice Ay ny cy), undef, undef, undef, undef, undef, undef, undef, undef, undef, undef, undef, undef, undef, undef, undef, undef, undef, undef, undef, undef, undef, undef, undef, undef, undef, undef, undef, undef, undef, undef, undef, undef, undef, undef, undef, undef, undef, undef, undef, undef, undef, undef, undef, undef, undef, undef, undef, undef, undef, undef, undef, undef, undef, undef, undef, undef, undef, undef, undef, undef, undef, undef, undef, undef, undef], []⟩ ∧ Sg w1.drew.heap.size w1.drew W [zblk, zblk] [some g0, none] (fun W => ((True ∧ Lw W (.slice Ax nx cx) xsa 8) ∧ Lw W (.slice Ay ny cy) xsb 8))) ?_ (fun Hs210 => ?_)
        · rintro a W ⟨Ax, nx, cx, Ay, ny, cy, g0, rfl, st0⟩
          have hHeld := st0.1
          have st := hide st0
          clear st0
          refine wpAnyH_ready (rs := [5]) (by kernel_rfl) (by simp) ?_
          refine AllReadyH.cons rfl (fun K hK => ?_) ?_
          · go_simp
            have st2 := Sg.make st.out (Firm2.and (Firm2.and Firm2.yes (Firm2.lw _ _ _)) (Firm2.lw _ _ _)) 1 _ rfl (by simp)
            refine hK.out _ _ st2.1 (fun hHeld => ?_)
            (try simp only [Act.put, List.setIfInBounds_toArray, List.set_cons_zero, List.set_cons_succ])
            exact Hs211.out _ _ ⟨Ax, nx, cx, Ay, ny, cy, g0, W.heap.size, rfl, st2⟩
          exact AllReadyH.nil
        refine wpAnyH_with 3 #[true, true, true, true, false, true, false, false] (fun a W => ∃ (Ax : Option Addr) (nx cx : Nat) (Ay : Option Addr) (ny cy : Nat) (g1 : Nat), a = ⟨#[zv sa (.slice Aa na ca), zv sb (.slice Ab nb cb), .pointer (some ⟨w.heap.size, 0, none⟩), .pointer (some ⟨w.heap.size + 1, 0, none⟩), .bool false, undef, .pointer (some ⟨g1, 0, none⟩), undef, undef, undef, undef, undef, undef, .bool true, .bool false, .pointer (some ⟨w.heap.size, 1, none⟩), .slice Aa na ca, .int .i64 ((na : Nat) : Int), .bool false, .bool false, .pointer (some ⟨w.heap.size + 1, 1, none⟩), .slice Ab nb cb, .int .i64 ((nb : Nat) : Int), .bool false, .bool false, zv sa (.slice Aa na ca), zv sa (.slice Ax nx cx), zv sb (.slice Ab nb cb), zv sb (.slice Ay ny cy), undef, undef, undef, undef, undef, undef, undef, undef, undef, undef, undef, undef, undef, undef, undef, undef, undef, undef, undef, undef, undef, undef, undef, undef, undef, undef, undef, undef, undef, undef, undef, undef, undef, undef, undef, undef, undef, undef, undef, undef, undef, undef, undef, undef, undef, undef, undef, undef, undef, undef, undef, undef, undef, undef, undef, undef, undef, undef, undef, undef, undef, undef, undef, undef, undef], []⟩ ∧ Sg w1.drew.heap.size w1.drew W [zblk, zblk] [none, some g1] (fun W => ((True ∧ Lw W (.slice Ax nx cx) xsa 8) ∧ Lw W (.slice Ay ny cy) xsb 8))) ?_ (fun Hs201 => ?_)
        · rintro a W ⟨Ax, nx, cx, Ay, ny, cy, g1, rfl, st0⟩
          have hHeld := st0.1
          have st := hide st0
          clear st0
          refine wpAnyH_ready (rs := [4]) (by kernel_rfl) (by simp) ?_
          refine AllReadyH.cons rfl (fun K hK => ?_) ?_
          · go_simp
            have st2 := Sg.make st.out (Firm2.and (Firm2.and Firm2.yes (Firm2.lw _ _ _)) (Firm2.lw _ _ _)) 0 _ rfl (by simp)
            refine hK.out _ _ st2.1 (fun hHeld => ?_)
            (try simp only [Act.put, List.setIfInBounds_toArray, List.set_cons_zero, List.set_cons_succ])
            exact Hs211.out _ _ ⟨Ax, nx, cx, Ay, ny, cy, W.heap.size, g1, rfl, st2⟩
          exact AllReadyH.nil
        refine wpAnyH_with 4 #[true, true, true, true, false, false, false, false] (fun a W => ∃ (Ax : Option Addr) (nx cx : Nat) (Ay : Option Addr) (ny cy : Nat), a = ⟨#[zv sa (.slice Aa na ca), zv sb (.slice Ab nb cb), .pointer (some ⟨w.heap.size, 0, none⟩), .pointer (some ⟨w.heap.size + 1, 0, none⟩), .bool false, undef, undef, undef, undef, undef, undef, undef, undef, .bool true, .bool false, .pointer (some ⟨w.heap.size, 1, none⟩), .slice Aa na ca, .int .i64 ((na : Nat) : Int), .bool false, .bool false, .pointer (some ⟨w.heap.size + 1, 1, none⟩), .slice Ab nb cb, .int .i64 ((nb : Nat) : Int), .bool false, .bool false, zv sa (.slice Aa na ca), zv sa (.slice Ax nx cx), zv sb (.slice Ab nb cb), zv sb (.slice Ay ny cy), undef, undef, undef, undef, undef, undef, undef, undef, undef, undef, undef, undef, undef, undef, undef, undef, undef, undef, undef, undef, undef, undef, undef, undef, undef, undef, undef, undef, undef, undef, undef, undef, undef, undef, undef, undef, undef, undef, undef, undef, undef, undef, undef, undef, undef, undef, undef, undef, undef, undef, undef, undef, undef, undef, undef, undef, undef, undef, undef, undef, undef, undef, undef, undef, undef], []⟩ ∧ Sg w1.drew.heap.size w1.drew W [zblk, zblk] [none, none] (fun W => ((True ∧ Lw W (.slice Ax nx cx) xsa 8) ∧ Lw W (.slice Ay ny cy) xsb 8))) ?_ (fun Hs200 => ?_)
        · rintro a W ⟨Ax, nx, cx, Ay, ny, cy, rfl, st0⟩
          have hHeld := st0.1
          have st := hide st0
          clear st0
          refine wpAnyH_ready (rs := [4, 5]) (by kernel_rfl) (by simp) ?_
          refine AllReadyH.cons rfl (fun K hK => ?_) ?_
          · go_simp
            have st2 := Sg.make st.out (Firm2.and (Firm2.and Firm2.yes (Firm2.lw _ _ _)) (Firm2.lw _ _ _)) 0 _ rfl (by simp)
            refine hK.out _ _ st2.1 (fun hHeld => ?_)
            (try simp only [Act.put, List.setIfInBounds_toArray, List.set_cons_zero, List.set_cons_succ])
            exact Hs210.out _ _ ⟨Ax, nx, cx, Ay, ny, cy, W.heap.size, rfl, st2⟩
          refine AllReadyH.cons rfl (fun K hK => ?_) ?_
          · go_simp
            have st2 := Sg.make st.out (Firm2.and (Firm2.and Firm2.yes (Firm2.lw _ _ _)) (Firm2.lw _ _ _)) 1 _ rfl (by simp)
            refine hK.out _ _ st2.1 (fun hHeld => ?_)
            (try simp only [Act.put, List.setIfInBounds_toArray, List.set_cons_zero, List.set_cons_succ])
            exact Hs201.out _ _ ⟨Ax, nx, cx, Ay, ny, cy, W.heap.size, rfl, st2⟩
          exact AllReadyH.nil
        refine wpAnyH_with 3 #[true, true, true, false, true, true, false, false] (fun a W => ∃ (Ax : Option Addr) (nx cx : Nat) (g0 : Nat) (g1 : Nat), a = ⟨#[zv sa (.slice Aa na ca), zv sb (.slice Ab nb cb), .pointer (some ⟨w.heap.size, 0, none⟩), .pointer (some ⟨w.heap.size + 1, 0, none⟩), .bool false, .pointer (some ⟨g0, 0, none⟩), .pointer (some ⟨g1, 0, none⟩), undef, undef, undef, undef, undef, undef, .bool true, .bool false, .pointer (some ⟨w.heap.size, 1, none⟩), .slice Aa na ca, .int .i64 ((na : Nat) : Int), .bool false, .bool false, .pointer (some ⟨w.heap.size + 1, 1, none⟩), .slice Ab nb cb, .int .i64 ((nb : Nat) : Int), .bool false, .bool false, zv sa (.slice Aa na ca), zv sa (.slice Ax nx cx), zv sb (.slice Ab nb cb), undef, undef, undef, undef, undef, undef, undef, undef, undef, undef, undef, undef, undef, undef, undef, undef, undef, undef, undef, undef, undef, undef, undef, undef, undef, undef, undef, undef, undef, undef, undef, undef, undef, undef, undef, undef, undef, undef, undef, undef, undef, undef, undef, undef, undef, undef, undef, undef, undef, undef, undef, undef, undef, undef, undef, undef, undef, undef, undef, undef, undef, undef, undef, undef, undef, undef], []⟩ ∧ Sg w1.drew.heap.size w1.drew W [zblk, zblk] [some g0, some g1] (fun W => (True ∧ Lw W (.slice Ax nx cx) xsa 8))) ?_ (fun Hs111 => ?_)
        · rintro a W ⟨Ax, nx, cx, g0, g1, rfl, st0⟩
          have hHeld := st0.1
          have st := hide st0
          clear st0
          refine wpAnyH_ready (rs := [3]) (by kernel_rfl) (by simp) ?_
          refine AllReadyH.cons rfl (fun K hK => ?_) ?_
          · go_simp
            go_at_call 11
            refine Calls.mono (zcopy_l (L := 8) (R.out.2.step st.out.1) (by omega)) ?_
            rintro e wx ⟨v9, rfl, tx, bx⟩
            obtain ⟨Ay, ny, cy, rfl⟩ := tx.nw.slice
            try dsimp only
            have st2 := Sg.call (G := fun W => Lw W (.slice Ay ny cy) xsb 8) st.out bx (Firm2.and Firm2.yes (Firm2.lw _ _ _)) tx
            have hSt := hide st2
            refine hK.out _ _ st2.1 (fun hHeld => ?_)
            clear hK K st2
            (try simp only [Act.put, List.setIfInBounds_toArray, List.set_cons_zero, List.set_cons_succ])
            exact Hs211.out _ _ ⟨Ax, nx, cx, Ay, ny, cy, g0, g1, rfl, hSt.out⟩
          exact AllReadyH.nil
        refine wpAnyH_with 4 #[true, true, true, false, true, false, false, false] (fun a W => ∃ (Ax : Option Addr) (nx cx : Nat) (g0 : Nat), a = ⟨#[zv sa (.slice Aa na ca), zv sb (.slice Ab nb cb), .pointer (some ⟨w.heap.size, 0, none⟩), .pointer (some ⟨w.heap.size + 1, 0, none⟩), .bool false, .pointer (some ⟨g0, 0, none⟩), undef, undef, undef, undef, undef, undef, undef, .bool true, .bool false, .pointer (some ⟨w.heap.size, 1, none⟩), .slice Aa na ca, .int .i64 ((na : Nat) : Int), .bool false, .bool false, .pointer (some ⟨w.heap.size + 1, 1, none⟩), .slice Ab nb cb, .int .i64 ((nb : Nat) : Int), .bool false, .bool false, zv sa (.slice Aa na ca), zv sa (.slice Ax nx cx), zv sb (.slice Ab nb cb), undef, undef, undef, undef, undef, undef, undef, undef, undef, undef, undef, undef, undef, undef, undef, undef, undef, undef, undef, undef, undef, undef, undef, undef, undef, undef, undef, undef, undef, undef, undef, undef, undef, undef, undef, undef, undef, undef, undef, undef, undef, undef, undef, undef, undef, undef, undef, undef, undef, undef, undef, undef, undef, undef, undef, undef, undef, undef, undef, undef, undef, undef, undef, undef, undef, undef], []⟩ ∧ Sg w1.drew.heap.size w1.drew W [zblk, zblk] [some g0, none] (fun W => (True ∧ Lw W (.slice Ax nx cx) xsa 8))) ?_ (fun Hs110 => ?_)
        · rintro a W ⟨Ax, nx, cx, g0, rfl, st0⟩
          have hHeld := st0.1
          have st := hide st0
          clear st0
          refine wpAnyH_ready (rs := [3, 5]) (by kernel_rfl) (by simp) ?_
          refine AllReadyH.cons rfl (fun K hK => ?_) ?_
          · go_simp
            go_at_call 11
            refine Calls.mono (zcopy_l (L := 8) (R.out.2.step st.out.1) (by omega)) ?_
            rintro e wx ⟨v9, rfl, tx, bx⟩
            obtain ⟨Ay, ny, cy, rfl⟩ := tx.nw.slice
            try dsimp only
            have st2 := Sg.call (G := fun W => Lw W (.slice Ay ny cy) xsb 8) st.out bx (Firm2.and Firm2.yes (Firm2.lw _ _ _)) tx
            have hSt := hide st2
            refine hK.out _ _ st2.1 (fun hHeld => ?_)
            clear hK K st2
            (try simp only [Act.put, List.setIfInBounds_toArray, List.set_cons_zero, List.set_cons_succ])
            exact Hs210.out _ _ ⟨Ax, nx, cx, Ay, ny, cy, g0, rfl, hSt.out⟩
          refine AllReadyH.cons rfl (fun K hK => ?_) ?_
          · go_simp
            have st2 := Sg.make st.out (Firm2.and Firm2.yes (Firm2.lw _ _ _)) 1 _ rfl (by simp)
            refine hK.out _ _ st2.1 (fun hHeld => ?_)
            (try simp only [Act.put, List.setIfInBounds_toArray, List.set_cons_zero, List.set_cons_succ])
            exact Hs111.out _ _ ⟨Ax, nx, cx, g0, W.heap.size, rfl, st2⟩
          exact AllReadyH.nil
        refine wpAnyH_with 4 #[true, true, true, false, false, true, false, false] (fun a W => ∃ (Ax : Option Addr) (nx cx : Nat) (g1 : Nat), a = ⟨#[zv sa (.slice Aa na ca), zv sb (.slice Ab nb cb), .pointer (some ⟨w.heap.size, 0, none⟩), .pointer (some ⟨w.heap.size + 1, 0, none⟩), .bool false, undef, .pointer (some ⟨g1, 0, none⟩), undef, undef, undef, undef, undef, undef, .bool true, .bool false, .pointer (some ⟨w.heap.size, 1, none⟩), .slice Aa na ca, .int .i64 ((na : Nat) : Int), .bool false, .bool false, .pointer (some ⟨w.heap.size + 1, 1, none⟩), .slice Ab nb cb, .int .i64 ((nb : Nat) : Int), .bool false, .bool false, zv sa (.slice Aa na ca), zv sa (.slice Ax nx cx), zv sb (.slice Ab nb cb), undef, undef, undef, undef, undef, undef, undef, undef, undef, undef, undef, undef, undef, undef, undef, undef, undef, undef, undef, undef, undef, undef, undef, undef, undef, undef, undef, undef, undef, undef, undef, undef, undef, undef, undef, undef, undef, undef, undef, undef, undef, undef, undef, undef, undef, undef, undef, undef, undef, undef, undef, undef, undef, undef, undef, undef, undef, undef, undef, undef, undef, undef, undef, undef, undef, undef], []⟩ ∧ Sg w1.drew.heap.size w1.drew W [zblk, zblk] [none, some g1] (fun W => (True ∧ Lw W (.slice Ax nx cx) xsa 8))) ?_ (fun Hs101 => ?_)
        · rintro a W ⟨Ax, nx, cx, g1, rfl, st0⟩
          have hHeld := st0.1
          have st := hide st0
          clear st0
          refine wpAnyH_ready (rs := [3, 4]) (by kernel_rfl) (by simp) ?_
          refine AllReadyH.cons rfl (fun K hK => ?_) ?_
          · go_simp
            go_at_call 11
            refine Calls.mono (zcopy_l (L := 8) (R.out.2.step st.out.1) (by omega)) ?_
            rintro e wx ⟨v9, rfl, tx, bx⟩
            obtain ⟨Ay, ny, cy, rfl⟩ := tx.nw.slice
            try dsimp only
            have st2 := Sg.call (G := fun W => Lw W (.slice Ay ny cy) xsb 8) st.out bx (Firm2.and Firm2.yes (Firm2.lw _ _ _)) tx
            have hSt := hide st2
            refine hK.out _ _ st2.1 (fun hHeld => ?_)
            clear hK K st2
            (try simp only [Act.put, List.setIfInBounds_toArray, List.set_cons_zero, List.set_cons_succ])
            exact Hs201.out _ _ ⟨Ax, nx, cx, Ay, ny, cy, g1, rfl, hSt.out⟩
          refine AllReadyH.cons rfl (fun K hK => ?_) ?_
          · go_simp
            have st2 := Sg.make st.out (Firm2.and Firm2.yes (Firm2.lw _ _ _)) 0 _ rfl (by simp)
            refine hK.out _ _ st2.1 (fun hHeld => ?_)
            (try simp only [Act.put, List.setIfInBounds_toArray, List.set_cons_zero, List.set_cons_succ])
            exact Hs111.out _ _ ⟨Ax, nx, cx, W.heap.size, g1, rfl, st2⟩
          exact AllReadyH.nil
        refine wpAnyH_with 5 #[true, true, true, false, false, false, false, false] (fun a W => ∃ (Ax : Option Addr) (nx cx : Nat), a = ⟨#[zv sa (.slice Aa na ca), zv sb (.slice Ab nb cb), .pointer (some ⟨w.heap.size, 0, none⟩), .pointer (some ⟨w.heap.size + 1, 0, none⟩), .bool false, undef, undef, undef, undef, undef, undef, undef, undef, .bool true, .bool false, .pointer (some ⟨w.heap.size, 1, none⟩), .slice Aa na ca, .int .i64 ((na : Nat) : Int), .bool false, .bool false, .pointer (some ⟨w.heap.size + 1, 1, none⟩), .slice Ab nb cb, .int .i64 ((nb : Nat) : Int), .bool false, .bool false, zv sa (.slice Aa na ca), zv sa (.slice Ax nx cx), zv sb (.slice Ab nb cb), undef, undef, undef, undef, undef, undef, undef, undef, undef, undef, undef, undef, undef, undef, undef, undef, undef, undef, undef, undef, undef, undef, undef, undef, undef, undef, undef, undef, undef, undef, undef, undef, undef, undef, undef, undef, undef, undef, undef, undef, undef, undef, undef, undef, undef, undef, undef, undef, undef, undef, undef, undef, undef, undef, undef, undef, undef, undef, undef, undef, undef, undef, undef, undef, undef, undef], []⟩ ∧ Sg w1.drew.heap.size w1.drew W [zblk, zblk] [none, none] (fun W => (True ∧ Lw W (.slice Ax nx cx) xsa 8))) ?_ (fun Hs100 => ?_)
        · rintro a W ⟨Ax, nx, cx, rfl, st0⟩
          have hHeld := st0.1
          have st := hide st0
          clear st0
          refine wpAnyH_ready (rs := [3, 4, 5]) (by kernel_rfl) (by simp) ?_
          refine AllReadyH.cons rfl (fun K hK => ?_) ?_
          · go_simp
            go_at_call 11
            refine Calls.mono (zcopy_l (L := 8) (R.out.2.step st.out.1) (by omega)) ?_
            rintro e wx ⟨v9, rfl, tx, bx⟩
            obtain ⟨Ay, ny, cy, rfl⟩ := tx.nw.slice
            try dsimp only
            have st2 := Sg.call (G := fun W => Lw W (.slice Ay ny cy) xsb 8) st.out bx (Firm2.and Firm2.yes (Firm2.lw _ _ _)) tx
            have hSt := hide st2
            refine hK.out _ _ st2.1 (fun hHeld => ?_)
            clear hK K st2
            (try simp only [Act.put, List.setIfInBounds_toArray, List.set_cons_zero, List.set_cons_succ])
            exact Hs200.out _ _ ⟨Ax, nx, cx, Ay, ny, cy, rfl, hSt.out⟩
          refine AllReadyH.cons rfl (fun K hK => ?_) ?_
          · go_simp
            have st2 := Sg.make st.out (Firm2.and Firm2.yes (Firm2.lw _ _ _)) 0 _ rfl (by simp)
            refine hK.out _ _ st2.1 (fun hHeld => ?_)
            (try simp only [Act.put, List.setIfInBounds_toArray, List.set_cons_zero, List.set_cons_succ])
            exact Hs110.out _ _ ⟨Ax, nx, cx, W.heap.size, rfl, st2⟩
          refine AllReadyH.cons rfl (fun K hK => ?_) ?_
          · go_simp
            have st2 := Sg.make st.out (Firm2.and Firm2.yes (Firm2.lw _ _ _)) 1 _ rfl (by simp)
            refine hK.out _ _ st2.1 (fun hHeld => ?_)
            (try simp only [Act.put, List.setIfInBounds_toArray, List.set_cons_zero, List.set_cons_succ])
            exact Hs101.out _ _ ⟨Ax, nx, cx, W.heap.size, rfl, st2⟩
          exact AllReadyH.nil
        refine wpAnyH_with 4 #[true, false, true, false, true, true, false, false] (fun a W => ∃ (g0 : Nat) (g1 : Nat), a = ⟨#[zv sa (.slice Aa na ca), zv sb (.slice Ab nb cb), .pointer (some ⟨w.heap.size, 0, none⟩), .pointer (some ⟨w.heap.size + 1, 0, none⟩), .bool false, .pointer (some ⟨g0, 0, none⟩), .pointer (some ⟨g1, 0, none⟩), undef, undef, undef, undef, undef, undef, .bool true, .bool false, .pointer (some ⟨w.heap.size, 1, none⟩), .slice Aa na ca, .int .i64 ((na : Nat) : Int), .bool false, .bool false, .pointer (some ⟨w.heap.size + 1, 1, none⟩), .slice Ab nb cb, .int .i64 ((nb : Nat) : Int), .bool false, .bool false, zv sa (.slice Aa na ca), undef, zv sb (.slice Ab nb cb), undef, undef, undef, undef, undef, undef, undef, undef, undef, undef, undef, undef, undef, undef, undef, undef, undef, undef, undef, undef, undef, undef, undef, undef, undef, undef, undef, undef, undef, undef, undef, undef, undef, undef, undef, undef, undef, undef, undef, undef, undef, undef, undef, undef, undef, undef, undef, undef, undef, undef, undef, undef, undef, undef, undef, undef, undef, undef, undef, undef, undef, undef, undef, undef, undef, undef], []⟩ ∧ Sg w1.drew.heap.size w1.drew W [zblk, zblk] [some g0, some g1] (fun W => True)) ?_ (fun Hs011 => ?_)
        · rintro a W ⟨g0, g1, rfl, st0⟩
          have hHeld := st0.1
          have st := hide st0
          clear st0
          refine wpAnyH_ready (rs := [1]) (by kernel_rfl) (by simp) ?_
          refine AllReadyH.cons rfl (fun K hK => ?_) ?_
          · go_simp
            go_at_call 11
            refine Calls.mono (zcopy_l (L := 8) (R.out.1.step st.out.1) (by omega)) ?_
            rintro e wx ⟨v9, rfl, tx, bx⟩
            obtain ⟨Ax, nx, cx, rfl⟩ := tx.nw.slice
            try dsimp only
            have st2 := Sg.call (G := fun W => Lw W (.slice Ax nx cx) xsa 8) st.out bx Firm2.yes tx
            have hSt := hide st2
            refine hK.out _ _ st2.1 (fun hHeld => ?_)
            clear hK K st2
            (try simp only [Act.put, List.setIfInBounds_toArray, List.set_cons_zero, List.set_cons_succ])
            exact Hs111.out _ _ ⟨Ax, nx, cx, g0, g1, rfl, hSt.out⟩
          exact AllReadyH.nil
        refine wpAnyH_with 5 #[true, false, true, false, true, false, false, false] (fun a W => ∃ (g0 : Nat), a = ⟨#[zv sa (.slice Aa na ca), zv sb (.slice Ab nb cb), .pointer (some ⟨w.heap.size, 0, none⟩), .pointer (some ⟨w.heap.size + 1, 0, none⟩), .bool false, .pointer (some ⟨g0, 0, none⟩), undef, undef, undef, undef, undef, undef, undef, .bool true, .bool false, .pointer (some ⟨w.heap.size, 1, none⟩), .slice Aa na ca, .int .i64 ((na : Nat) : Int), .bool false, .bool false, .pointer (some ⟨w.heap.size + 1, 1, none⟩), .slice Ab nb cb, .int .i64 ((nb : Nat) : Int), .bool false, .bool false, zv sa (.slice Aa na ca), undef, zv sb (.slice Ab nb cb), undef, undef, undef, undef, undef, undef, undef, undef, undef, undef, undef, undef, undef, undef, undef, undef, undef, undef, undef, undef, undef, undef, undef, undef, undef, undef, undef, undef, undef, undef, undef, undef, undef, undef, undef, undef, undef, undef, undef, undef, undef, undef, undef, undef, undef, undef, undef, undef, undef, undef, undef, undef, undef, undef, undef, undef, undef, undef, undef, undef, undef, undef, undef, undef, undef, undef], []⟩ ∧ Sg w1.drew.heap.size w1.drew W [zblk, zblk] [some g0, none] (fun W => True)) ?_ (fun Hs010 => ?_)
        · rintro a W ⟨g0, rfl, st0⟩
          have hHeld := st0.1
          have st := hide st0
          clear st0
          refine wpAnyH_ready (rs := [1, 5]) (by kernel_rfl) (by simp) ?_
          refine AllReadyH.cons rfl (fun K hK => ?_) ?_
          · go_simp
            go_at_call 11
            refine Calls.mono (zcopy_l (L := 8) (R.out.1.step st.out.1) (by omega)) ?_
            rintro e wx ⟨v9, rfl, tx, bx⟩
            obtain ⟨Ax, nx, cx, rfl⟩ := tx.nw.slice
            try dsimp only
            have st2 := Sg.call (G := fun W => Lw W (.slice Ax nx cx) xsa 8) st.out bx Firm2.yes tx
            have hSt := hide st2
            refine hK.out _ _ st2.1 (fun hHeld => ?_)
            clear hK K st2
            (try simp only [Act.put, List.setIfInBounds_toArray, List.set_cons_zero, List.set_cons_succ])
            exact Hs110.out _ _ ⟨Ax, nx, cx, g0, rfl, hSt.out⟩
          refine AllReadyH.cons rfl (fun K hK => ?_) ?_
          · go_simp
            have st2 := Sg.make st.out Firm2.yes 1 _ rfl (by simp)
            refine hK.out _ _ st2.1 (fun hHeld => ?_)
            (try simp only [Act.put, List.setIfInBounds_toArray, List.set_cons_zero, List.set_cons_succ])
            exact Hs011.out _ _ ⟨g0, W.heap.size, rfl, st2⟩
          exact AllReadyH.nil
        refine wpAnyH_with 5 #[true, false, true, false, false, true, false, false] (fun a W => ∃ (g1 : Nat), a = ⟨#[zv sa (.slice Aa na ca), zv sb (.slice Ab nb cb), .pointer (some ⟨w.heap.size, 0, none⟩), .pointer (some ⟨w.heap.size + 1, 0, none⟩), .bool false, undef, .pointer (some ⟨g1, 0, none⟩), undef, undef, undef, undef, undef, undef, .bool true, .bool false, .pointer (some ⟨w.heap.size, 1, none⟩), .slice Aa na ca, .int .i64 ((na : Nat) : Int), .bool false, .bool false, .pointer (some ⟨w.heap.size + 1, 1, none⟩), .slice Ab nb cb, .int .i64 ((nb : Nat) : Int), .bool false, .bool false, zv sa (.slice Aa na ca), undef, zv sb (.slice Ab nb cb), undef, undef, undef, undef, undef, undef, undef, undef, undef, undef, undef, undef, undef, undef, undef, undef, undef, undef, undef, undef, undef, undef, undef, undef, undef, undef, undef, undef, undef, undef, undef, undef, undef, undef, undef, undef, undef, undef, undef, undef, undef, undef, undef, undef, undef, undef, undef, undef, undef, undef, undef, undef, undef, undef, undef, undef, undef, undef, undef, undef, undef, undef, undef, undef, undef, undef], []⟩ ∧ Sg w1.drew.heap.size w1.drew W [zblk, zblk] [none, some g1] (fun W => True)) ?_ (fun Hs001 => ?_)
        · rintro a W ⟨g1, rfl, st0⟩
          have hHeld := st0.1
          have st := hide st0
          clear st0
          refine wpAnyH_ready (rs := [1, 4]) (by kernel_rfl) (by simp) ?_
          refine AllReadyH.cons rfl (fun K hK => ?_) ?_
          · go_simp
            go_at_call 11
            refine Calls.mono (zcopy_l (L := 8) (R.out.1.step st.out.1) (by omega)) ?_
            rintro e wx ⟨v9, rfl, tx, bx⟩
            obtain ⟨Ax, nx, cx, rfl⟩ := tx.nw.slice
            try dsimp only
            have st2 := Sg.call (G := fun W => Lw W (.slice Ax nx cx) xsa 8) st.out bx Firm2.yes tx
            have hSt := hide st2
            refine hK.out _ _ st2.1 (fun hHeld => ?_)
            clear hK K st2
            (try simp only [Act.put, List.setIfInBounds_toArray, List.set_cons_zero, List.set_cons_succ])
            exact Hs101.out _ _ ⟨Ax, nx, cx, g1, rfl, hSt.out⟩
          refine AllReadyH.cons rfl (fun K hK => ?_) ?_
          · go_simp
            have st2 := Sg.make st.out Firm2.yes 0 _ rfl (by simp)
            refine hK.out _ _ st2.1 (fun hHeld => ?_)
            (try simp only [Act.put, List.setIfInBounds_toArray, List.set_cons_zero, List.set_cons_succ])
            exact Hs011.out _ _ ⟨W.heap.size, g1, rfl, st2⟩
          exact AllReadyH.nil
        refine wpAnyH_take (i := 0) (v := ?_) rfl (by kernel_rfl) (by kernel_rfl) (by kernel_rfl) (fun _ _ _ h => h) (Or.inl ⟨?_, ?_⟩) (by assumption) ?_
        rotate_left
        · rfl
        · (intro w hSw; have e0 := cell_keep P.out.1.1 hSw; have e1 := cell_keep P.out.1.2 hSw; go_simp; try with_reducible rfl)
        (try simp only [Act.put, List.setIfInBounds_toArray, List.set_cons_zero, List.set_cons_succ])
        refine wpAnyH_take (i := 2) (v := ?_) rfl (by kernel_rfl) (by kernel_rfl) (by kernel_rfl) (fun _ _ _ h => h) (Or.inl ⟨?_, ?_⟩) (by assumption) ?_
        rotate_left
        · rfl
        · (intro w hSw; have e0 := cell_keep P.out.2.1 hSw; have e1 := cell_keep P.out.2.2 hSw; go_simp; try with_reducible rfl)
        (try simp only [Act.put, List.setIfInBounds_toArray, List.set_cons_zero, List.set_cons_succ])
        refine wpAnyH_with 6 #[true, false, true, false, false, false, false, false] (fun a W => a = ⟨#[zv sa (.slice Aa na ca), zv sb (.slice Ab nb cb), .pointer (some ⟨w.heap.size, 0, none⟩), .pointer (some ⟨w.heap.size + 1, 0, none⟩), .bool false, undef, undef, undef, undef, undef, undef, undef, undef, .bool true, .bool false, .pointer (some ⟨w.heap.size, 1, none⟩), .slice Aa na ca, .int .i64 ((na : Nat) : Int), .bool false, .bool false, .pointer (some ⟨w.heap.size + 1, 1, none⟩), .slice Ab nb cb, .int .i64 ((nb : Nat) : Int), .bool false, .bool false, zv sa (.slice Aa na ca), undef, zv sb (.slice Ab nb cb), undef, undef, undef, undef, undef, undef, undef, undef, undef, undef, undef, undef, undef, undef, undef, undef, undef, undef, undef, undef, undef, undef, undef, undef, undef, undef, undef, undef, undef, undef, undef, undef, undef, undef, undef, undef, undef, undef, undef, undef, undef, undef, undef, undef, undef, undef, undef, undef, undef, undef, undef, undef, undef, undef, undef, undef, undef, undef, undef, undef, undef, undef, undef, undef, undef, undef], []⟩ ∧ Sg w1.drew.heap.size w1.drew W [zblk, zblk] [none, none] (fun W => True)) ?_ (fun Hs => Hs.out _ _ ⟨rfl, Sg.start _ _ 2⟩)
        rintro a W ⟨rfl, st0⟩
        have hHeld := st0.1
        have st := hide st0
        clear st0
        refine wpAnyH_ready (rs := [1, 4, 5]) (by kernel_rfl) (by simp) ?_
        refine AllReadyH.cons rfl (fun K hK => ?_) ?_
        · go_simp
          go_at_call 11
          refine Calls.mono (zcopy_l (L := 8) (R.out.1.step st.out.1) (by omega)) ?_
          rintro e wx ⟨v9, rfl, tx, bx⟩
          obtain ⟨Ax, nx, cx, rfl⟩ := tx.nw.slice
          try dsimp only
          have st2 := Sg.call (G := fun W => Lw W (.slice Ax nx cx) xsa 8) st.out bx Firm2.yes tx
          have hSt := hide st2
          refine hK.out _ _ st2.1 (fun hHeld => ?_)
          clear hK K st2
          (try simp only [Act.put, List.setIfInBounds_toArray, List.set_cons_zero, List.set_cons_succ])
          exact Hs100.out _ _ ⟨Ax, nx, cx, rfl, hSt.out⟩
        refine AllReadyH.cons rfl (fun K hK => ?_) ?_
        · go_simp
          have st2 := Sg.make st.out Firm2.yes 0 _ rfl (by simp)
          refine hK.out _ _ st2.1 (fun hHeld => ?_)
          (try simp only [Act.put, List.setIfInBounds_toArray, List.set_cons_zero, List.set_cons_succ])
          exact Hs010.out _ _ ⟨W.heap.size, rfl, st2⟩
        refine AllReadyH.cons rfl (fun K hK => ?_) ?_
        · go_simp
          have st2 := Sg.make st.out Firm2.yes 1 _ rfl (by simp)
          refine hK.out _ _ st2.1 (fun hHeld => ?_)
          (try simp only [Act.put, List.setIfInBounds_toArray, List.set_cons_zero, List.set_cons_succ])
          exact Hs001.out _ _ ⟨W.heap.size, rfl, st2⟩
        exact AllReadyH.nil
      · have HB := hide hb0
        clear hb0
        go_enter Try.func3, Try.ntmps3
        go_wp2_with fail
        refine (rspeaks_true _).mono ?_
        rintro e w1 ⟨rfl, bx0⟩
        have bx := Below.step1 bx0 (Below.drew (Below.refl w1.heap.size w1))
        obtain ⟨p0, p1⟩ := P.out.1.step bx0
        obtain ⟨q0, q1⟩ := P.out.2.step bx0
        replace P := hide (And.intro (P.out.1.step bx) (P.out.2.step bx))
        replace R := hide (And.intro (R.out.1.step bx) (R.out.2.step bx))
        replace B := hide (Below.step B.out B.out.size bx)
        clear bx bx0
        go_wp2_with fail
        clear p0 p1 q0 q1 t1 t2
        refine wp_region_held_drew (S := fun W => Below w1.drew.heap.size w1.drew W) (by kernel_rfl) (Below.refl _ _) (fun hHeld => ?_)
        refine wpAnyH_with 2 #[true, true, true, true, true, true, false, false] (fun a W => ∃ (Ax : Option Addr) (nx cx : Nat) (Ay : Option Addr) (ny cy : Nat) (g0 : Nat) (g1 : Nat), a = ⟨#[zv sa (.slice Aa na ca), zv sb (.slice Ab nb cb), .pointer (some ⟨w.heap.size, 0, none⟩), .pointer (some ⟨w.heap.size + 1, 0, none⟩), .bool false, .pointer (some ⟨g0, 0, none⟩), .pointer (some ⟨g1, 0, none⟩), undef, undef, undef, undef, undef, undef, .bool true, .bool false, .pointer (some ⟨w.heap.size, 1, none⟩), .slice Aa na ca, .int .i64 ((na : Nat) : Int), .bool false, .bool false, .pointer (some ⟨w.heap.size + 1, 1, none⟩), .slice Ab nb cb, .int .i64 ((nb : Nat) : Int), .bool false, .bool false, zv sa (.slice Aa na ca), zv sa (.slice Ax nx cx), zv sb (.slice Ab nb cb), zv sb (.slice Ay ny cy), undef, undef, undef, undef, undef, undef, undef, undef, undef, undef, undef, undef, undef, undef, undef, undef, undef, undef, undef, undef, undef, undef, undef, undef, undef, undef, undef, undef, undef, undef, undef, undef, undef, undef, undef, undef, undef, undef, undef, undef, undef, undef, undef, undef, undef, undef, undef, undef, undef, undef, undef, undef, undef, undef, undef, undef, undef, undef, undef, undef, undef, undef, undef, undef, undef], []⟩ ∧ Sg w1.drew.heap.size w1.drew W [zblk, zblk] [some g0, some g1] (fun W => ((True ∧ Lw W (.slice Ax nx cx) xsa 8) ∧ Lw W (.slice Ay ny cy) xsb 8))) ?_ (fun Hs211 => ?_)
        · rintro a W ⟨Ax, nx, cx, Ay, ny, cy, g0, g1, rfl, st0⟩
          have hHeld := st0.1
          have st := hide st0
          clear st0
          obtain ⟨k0, f0⟩ := Sg.cells st.out 0 g0 #[.bool false, .slice none 0 0] 24 rfl rfl 0
          obtain ⟨k1, f1⟩ := Sg.cells st.out 0 g0 #[.bool false, .slice none 0 0] 24 rfl rfl 1
          simp only [List.getElem?_toArray, List.getElem?_cons_zero, List.getElem?_cons_succ] at k0
          simp only [List.getElem?_toArray, List.getElem?_cons_zero, List.getElem?_cons_succ] at k1
          have st9 := st.out
          have st9 := Sg.put st9 (Firm2.and (Firm2.and Firm2.yes (Firm2.lw _ _ _)) (Firm2.lw _ _ _)) 0 g0 0 _ 24 (.bool sa) rfl rfl rfl
          have st9 := Sg.put st9 (Firm2.and (Firm2.and Firm2.yes (Firm2.lw _ _ _)) (Firm2.lw _ _ _)) 0 g0 1 _ 24 (.slice Ax nx cx) rfl rfl rfl
          have st8 := hide st9
          clear st9
          refine wpAnyH_ready (rs := [6]) (by kernel_rfl) (by simp) ?_
          refine AllReadyH.cons rfl (fun K hK => ?_) ?_
          rotate_left
          · exact AllReadyH.nil
          go_simp
          refine hK.out _ _ st8.out.1 (fun hHeld => ?_)
          clear hK K k0 f0 k1 f1 st
          (try simp only [Act.put, List.setIfInBounds_toArray, List.set_cons_zero, List.set_cons_succ])
          generalize ((W.setCell ⟨g0, 0, none⟩ _).setCell ⟨g0, 1, none⟩ _) = W5 at *
          have st := st8
          clear st8
          obtain ⟨k0, f0⟩ := Sg.cells st.out 1 g1 #[.bool false, .slice none 0 0] 24 rfl rfl 0
          obtain ⟨k1, f1⟩ := Sg.cells st.out 1 g1 #[.bool false, .slice none 0 0] 24 rfl rfl 1
          simp only [List.getElem?_toArray, List.getElem?_cons_zero, List.getElem?_cons_succ] at k0
          simp only [List.getElem?_toArray, List.getElem?_cons_zero, List.getElem?_cons_succ] at k1
          have st9 := st.out
          have st9 := Sg.put st9 (Firm2.and (Firm2.and Firm2.yes (Firm2.lw _ _ _)) (Firm2.lw _ _ _)) 1 g1 0 _ 24 (.bool sb) rfl rfl rfl
          have st9 := Sg.put st9 (Firm2.and (Firm2.and Firm2.yes (Firm2.lw _ _ _)) (Firm2.lw _ _ _)) 1 g1 1 _ 24 (.slice Ay ny cy) rfl rfl rfl
          have st8 := hide st9
          clear st9
          refine wpAnyH_ready (rs := [7]) (by kernel_rfl) (by simp) ?_
          refine AllReadyH.cons rfl (fun K hK => ?_) ?_
          rotate_left
          · exact AllReadyH.nil
          go_simp
          refine hK.out _ _ st8.out.1 (fun hHeld => ?_)
          clear hK K k0 f0 k1 f1 st
          (try simp only [Act.put, List.setIfInBounds_toArray, List.set_cons_zero, List.set_cons_succ])
          generalize ((W5.setCell ⟨g1, 0, none⟩ _).setCell ⟨g1, 1, none⟩ _) = W6 at *
          have st := st8
          clear st8
          refine wpAnyH_done (by kernel_rfl) ?_ _
          clear hHeld
          have s9 := st.out
          have P := hide (And.intro (P.out.1.step s9.1) (And.intro (P.out.2.step s9.1) (And.intro (show Bx W6 g0 sa Ax nx cx from ⟨(Sg.cells s9 0 g0 _ _ rfl rfl 0).1, (Sg.cells s9 0 g0 _ _ rfl rfl 1).1⟩) (show Bx W6 g1 sb Ay ny cy from ⟨(Sg.cells s9 1 g1 _ _ rfl rfl 0).1, (Sg.cells s9 1 g1 _ _ rfl rfl 1).1⟩))))
          have R := hide (And.intro (R.out.1.step s9.1) (And.intro (R.out.2.step s9.1) (And.intro s9.2.2.1.1.2 s9.2.2.1.2)))
          have B := hide (Below.step B.out B.out.size s9.1)
          clear s9 st
          generalize W6 = M at *
          have PM := P
          have RM := R
          have BM := B
          obtain ⟨-, -, ⟨p0, p1⟩, q0, q1⟩ := P.out
          go_wp2_with fail
          refine (make_own (L := 8) (M := 8) (HA.out _ _ _ _ R.out.2.2.1) (HBB.out _ _ _ _ R.out.2.2.2) HB.out (by omega) (by omega) rfl).mono ?_
          rintro e w4 ⟨s7, u7, v7, rfl, hc, o1, o2, dj, b0⟩
          obtain ⟨A7, n7, c7, rfl⟩ := o1.slice
          obtain ⟨D7, m7, d7, rfl⟩ := o2.slice
          obtain ⟨x, y1⟩ := fbox1 w4 s7 A7 n7 c7 D7 m7 d7
          have dr := Below.drew (Below.refl (w4.alloc (rbox s7 (.slice A7 n7 c7) (.slice D7 m7 d7))).heap.size (w4.alloc (rbox s7 (.slice A7 n7 c7) (.slice D7 m7 d7))))
          have L1 := hide (own_lt o1)
          have L2 := hide (own_lt o2)
          have O7 := hide (And.intro ((o1.step x).step dr) ((o2.step x).step dr))
          have DJ := hide dj
          have HC := hide ((hc.step x).step dr)
          clear o1 o2 dj hc
          have bx := Below.step1 (Below.step1 b0 x) dr
          have P := hide (And.intro (P.out.1.step bx) (And.intro (P.out.2.1.step bx) (And.intro (P.out.2.2.1.step bx) (And.intro (P.out.2.2.2.step bx) (y1.step dr)))))
          replace R := hide ((And.intro (R.out.1.step bx) (And.intro (R.out.2.1.step bx) (And.intro (R.out.2.2.1.step bx) (R.out.2.2.2.step bx)))))
          have BB := hide bx
          have B := hide (Below.step B.out B.out.size bx)
          have H4 := hide (Nat.le_trans x.size dr.size)
          clear p0 p1 q0 q1 bx b0 x y1 dr
          go_wp2_with fail
          generalize (w4.alloc (.cells #[.bool s7, .slice A7 n7 c7, .slice D7 m7 d7] 28)) = w5 at *
          generalize hg7 : w4.heap.size = g7 at *
          refine wp_region_held_drew (S := fun W => Below w5.drew.heap.size w5.drew W) (by kernel_rfl) (Below.refl _ _) (fun hHeld => ?_)
          refine wpAnyH_with 2 #[true, true, true, true, true, true, false, false] (fun a W => ∃ (se : Bool) (Ae : Option Addr) (ne ce : Nat) (sf : Bool) (Af : Option Addr) (nf cf : Nat) (h0 : Nat) (h1 : Nat), a = ⟨#[zv sa (.slice Aa na ca), zv sb (.slice Ab nb cb), .pointer (some ⟨w.heap.size, 0, none⟩), .pointer (some ⟨w.heap.size + 1, 0, none⟩), .bool false, .pointer (some ⟨g0, 0, none⟩), .pointer (some ⟨g1, 0, none⟩), .pointer (some ⟨g7, 0, none⟩), .int .i64 0, .pointer (some ⟨h0, 0, none⟩), .pointer (some ⟨h1, 0, none⟩), undef, undef, .bool true, .bool false, .pointer (some ⟨w.heap.size, 1, none⟩), .slice Aa na ca, .int .i64 ((na : Nat) : Int), .bool false, .bool false, .pointer (some ⟨w.heap.size + 1, 1, none⟩), .slice Ab nb cb, .int .i64 ((nb : Nat) : Int), .bool false, .bool false, zv sa (.slice Aa na ca), zv sa (.slice Ax nx cx), zv sb (.slice Ab nb cb), zv sb (.slice Ay ny cy), .tuple #[rv s7 (.slice A7 n7 c7) (.slice D7 m7 d7), .int .i64 0], zv sa (.slice Ax nx cx), zv sb (.slice Ay ny cy), .tuple #[rv s7 (.slice A7 n7 c7) (.slice D7 m7 d7), .int .i64 0], rv s7 (.slice A7 n7 c7) (.slice D7 m7 d7), .int .i64 0, zv sa (.slice Aa na ca), zv se (.slice Ae ne ce), zv sb (.slice Ab nb cb), zv sf (.slice Af nf cf), undef, undef, undef, undef, undef, undef, undef, undef, undef, undef, undef, undef, undef, undef, undef, undef, undef, undef, undef, undef, undef, undef, undef, undef, undef, undef, undef, undef, undef, undef, undef, undef, undef, undef, undef, undef, undef, undef, undef, undef, undef, undef, undef, undef, undef, undef, undef, undef, undef, undef, undef, undef, undef, undef, undef], []⟩ ∧ Sg w5.drew.heap.size w5.drew W [qblk, qblk] [some h0, some h1] (fun W => ((True ∧ Qi W (zv se (.slice Ae ne ce)) ai (5 * 8)) ∧ Qi W (zv sf (.slice Af nf cf)) bi (5 * 8)))) ?_ (fun Hs211 => ?_)
          · rintro a W ⟨se, Ae, ne, ce, sf, Af, nf, cf, h0, h1, rfl, st0⟩
            have hHeld := st0.1
            have st := hide st0
            clear st0
            obtain ⟨k0, f0⟩ := Sg.cells st.out 0 h0 #[.bool false, .slice none 0 0] 34 rfl rfl 0
            obtain ⟨k1, f1⟩ := Sg.cells st.out 0 h0 #[.bool false, .slice none 0 0] 34 rfl rfl 1
            simp only [List.getElem?_toArray, List.getElem?_cons_zero, List.getElem?_cons_succ] at k0
            simp only [List.getElem?_toArray, List.getElem?_cons_zero, List.getElem?_cons_succ] at k1
            have st9 := st.out
            have st9 := Sg.put st9 (Firm2.and (Firm2.and Firm2.yes (Firm2.qi _ _ _)) (Firm2.qi _ _ _)) 0 h0 0 _ 34 (.bool se) rfl rfl rfl
            have st9 := Sg.put st9 (Firm2.and (Firm2.and Firm2.yes (Firm2.qi _ _ _)) (Firm2.qi _ _ _)) 0 h0 1 _ 34 (.slice Ae ne ce) rfl rfl rfl
            have st8 := hide st9
            clear st9
            refine wpAnyH_ready (rs := [6]) (by kernel_rfl) (by simp) ?_
            refine AllReadyH.cons rfl (fun K hK => ?_) ?_
            rotate_left
            · exact AllReadyH.nil
            go_simp
            refine hK.out _ _ st8.out.1 (fun hHeld => ?_)
            clear hK K k0 f0 k1 f1 st
            (try simp only [Act.put, List.setIfInBounds_toArray, List.set_cons_zero, List.set_cons_succ])
            generalize ((W.setCell ⟨h0, 0, none⟩ _).setCell ⟨h0, 1, none⟩ _) = W5 at *
            have st := st8
            clear st8
            obtain ⟨k0, f0⟩ := Sg.cells st.out 1 h1 #[.bool false, .slice none 0 0] 34 rfl rfl 0
            obtain ⟨k1, f1⟩ := Sg.cells st.out 1 h1 #[.bool false, .slice none 0 0] 34 rfl rfl 1
            simp only [List.getElem?_toArray, List.getElem?_cons_zero, List.getElem?_cons_succ] at k0
            simp only [List.getElem?_toArray, List.getElem?_cons_zero, List.getElem?_cons_succ] at k1
            have st9 := st.out
            have st9 := Sg.put st9 (Firm2.and (Firm2.and Firm2.yes (Firm2.qi _ _ _)) (Firm2.qi _ _ _)) 1 h1 0 _ 34 (.bool sf) rfl rfl rfl
            have st9 := Sg.put st9 (Firm2.and (Firm2.and Firm2.yes (Firm2.qi _ _ _)) (Firm2.qi _ _ _)) 1 h1 1 _ 34 (.slice Af nf cf) rfl rfl rfl
            have st8 := hide st9
            clear st9
            refine wpAnyH_ready (rs := [7]) (by kernel_rfl) (by simp) ?_
            refine AllReadyH.cons rfl (fun K hK => ?_) ?_
            rotate_left
            · exact AllReadyH.nil
            go_simp
            refine hK.out _ _ st8.out.1 (fun hHeld => ?_)
            clear hK K k0 f0 k1 f1 st
            (try simp only [Act.put, List.setIfInBounds_toArray, List.set_cons_zero, List.set_cons_succ])
            generalize ((W5.setCell ⟨h1, 0, none⟩ _).setCell ⟨h1, 1, none⟩ _) = W6 at *
            have st := st8
            clear st8
            refine wpAnyH_done (by kernel_rfl) ?_ _
            clear hHeld
            have s9 := st.out
            have bx := s9.1
            have P := hide (And.intro (P.out.1.step bx) (And.intro (P.out.2.1.step bx) (And.intro (P.out.2.2.1.step bx) (And.intro (P.out.2.2.2.1.step bx) (And.intro (P.out.2.2.2.2.step bx) (And.intro (show Bx W6 h0 se Ae ne ce from ⟨(Sg.cells s9 0 h0 _ _ rfl rfl 0).1, (Sg.cells s9 0 h0 _ _ rfl rfl 1).1⟩) (show Bx W6 h1 sf Af nf cf from ⟨(Sg.cells s9 1 h1 _ _ rfl rfl 0).1, (Sg.cells s9 1 h1 _ _ rfl rfl 1).1⟩)))))))
            replace R := hide ((And.intro (R.out.1.step bx) (And.intro (R.out.2.1.step bx) (And.intro (R.out.2.2.1.step bx) (R.out.2.2.2.step bx)))))
            have QQ := hide (And.intro s9.2.2.1.1.2 s9.2.2.1.2)
            replace O7 := hide (And.intro (O7.out.1.step bx) (O7.out.2.step bx))
            replace HC := hide (HC.out.step bx)
            replace BB := hide (Below.step1 BB.out bx)
            have B := hide (Below.step B.out B.out.size bx)
            have H4 := hide (Nat.le_trans H4.out s9.1.size)
            clear bx s9 st
            generalize W6 = w6 at *
            obtain ⟨-, -, ⟨p0, p1⟩, -⟩ := P.out
            go_wp2_with fail
            refine (ofint_own (L := 8) (HA.out _ _ _ _ R.out.2.2.1) (by omega) (by omega)).mono ?_
            rintro e w7 ⟨s9, u9, v9, rfl, hc9, o1, o2, dj9, b0⟩
            obtain ⟨A9, n9, c9, rfl⟩ := o1.slice
            obtain ⟨D9, m9, d9, rfl⟩ := o2.slice
            obtain ⟨x, y1⟩ := fbox1 w7 s9 A9 n9 c9 D9 m9 d9
            have dr := Below.drew (Below.refl (w7.alloc (rbox s9 (.slice A9 n9 c9) (.slice D9 m9 d9))).heap.size (w7.alloc (rbox s9 (.slice A9 n9 c9) (.slice D9 m9 d9))))
            have C9 := hide ((hc9.step x).step dr)
            have D11 := hide (own_fresh (fun g hg => Nat.lt_of_lt_of_le (L1.out g hg) H4.out) o1)
            have D12 := hide (own_fresh (fun g hg => Nat.lt_of_lt_of_le (L1.out g hg) H4.out) o2)
            have D21 := hide (own_fresh (fun g hg => Nat.lt_of_lt_of_le (L2.out g hg) H4.out) o1)
            have D22 := hide (own_fresh (fun g hg => Nat.lt_of_lt_of_le (L2.out g hg) H4.out) o2)
            have O9 := hide (And.intro (((o1.mono BB.out.size).step x).step dr) (((o2.mono BB.out.size).step x).step dr))
            have DJ9 := hide dj9
            have H7 := hide (Nat.le_trans H4.out b0.size)
            have bx := Below.step1 (Below.step1 b0 x) dr
            have P := hide (And.intro (P.out.1.step bx) (And.intro (P.out.2.1.step bx) (And.intro (P.out.2.2.1.step bx) (And.intro (P.out.2.2.2.1.step bx) (And.intro (P.out.2.2.2.2.1.step bx) (And.intro (P.out.2.2.2.2.2.1.step bx) (And.intro (P.out.2.2.2.2.2.2.step bx) (y1.step dr))))))))
            replace R := hide ((And.intro (R.out.1.step bx) (And.intro (R.out.2.1.step bx) (And.intro (R.out.2.2.1.step bx) (R.out.2.2.2.step bx)))))
            replace QQ := hide (And.intro (QQ.out.1.step bx) (QQ.out.2.step bx))
            replace O7 := hide (And.intro (O7.out.1.step bx) (O7.out.2.step bx))
            replace HC := hide (HC.out.step bx)
            replace BB := hide (Below.step1 BB.out bx)
            have B := hide (Below.step B.out B.out.size bx)
            clear p0 p1 bx b0 x y1 dr hc9 o1 o2 dj9
            go_wp2_with fail
            generalize (w7.alloc (.cells #[.bool s9, .slice A9 n9 c9, .slice D9 m9 d9] 28)) = w8 at *
            generalize hg11 : w7.heap.size = g11 at *
            go_region_held3 (fun W => (W.cell? ⟨w.heap.size, 0, none⟩ = some (.bool sa) ∧ W.cell? ⟨w.heap.size, 1, none⟩ = some (.slice Aa na ca)) ∧ (W.cell? ⟨w.heap.size + 1, 0, none⟩ = some (.bool sb) ∧ W.cell? ⟨w.heap.size + 1, 1, none⟩ = some (.slice Ab nb cb)) ∧ (W.cell? ⟨g0, 0, none⟩ = some (.bool sa) ∧ W.cell? ⟨g0, 1, none⟩ = some (.slice Ax nx cx)) ∧ (W.cell? ⟨g1, 0, none⟩ = some (.bool sb) ∧ W.cell? ⟨g1, 1, none⟩ = some (.slice Ay ny cy)) ∧ (W.cell? ⟨g7, 0, none⟩ = some (.bool s7) ∧ W.cell? ⟨g7, 1, none⟩ = some (.slice A7 n7 c7) ∧ W.cell? ⟨g7, 2, none⟩ = some (.slice D7 m7 d7)) ∧ (W.cell? ⟨h0, 0, none⟩ = some (.bool se) ∧ W.cell? ⟨h0, 1, none⟩ = some (.slice Ae ne ce)) ∧ (W.cell? ⟨h1, 0, none⟩ = some (.bool sf) ∧ W.cell? ⟨h1, 1, none⟩ = some (.slice Af nf cf)) ∧ (W.cell? ⟨g11, 0, none⟩ = some (.bool s9) ∧ W.cell? ⟨g11, 1, none⟩ = some (.slice A9 n9 c9) ∧ W.cell? ⟨g11, 2, none⟩ = some (.slice D9 m9 d9)))
              (exact P.out)
              (first
                | (go_at_call 17; refine Calls.mono (rwhole_any (a := ai) (L := 5 * 8) QQ.out.1 (by omega) (by omega)) ?_; rintro e wx ⟨vx, rfl, tx, bx⟩; replace P := hide ((And.intro (P.out.1.step bx) (And.intro (P.out.2.1.step bx) (And.intro (P.out.2.2.1.step bx) (And.intro (P.out.2.2.2.1.step bx) (And.intro (P.out.2.2.2.2.1.step bx) (And.intro (P.out.2.2.2.2.2.1.step bx) (And.intro (P.out.2.2.2.2.2.2.1.step bx) (P.out.2.2.2.2.2.2.2.step bx))))))))); replace R := hide ((And.intro (R.out.1.step bx) (And.intro (R.out.2.1.step bx) (And.intro (R.out.2.2.1.step bx) (R.out.2.2.2.step bx))))); replace QQ := hide (And.intro (QQ.out.1.step bx) (QQ.out.2.step bx)); replace O7 := hide (And.intro (O7.out.1.step bx) (O7.out.2.step bx)); replace HC := hide (HC.out.step bx); replace C9 := hide (C9.out.step bx); replace O9 := hide (And.intro (O9.out.1.step bx) (O9.out.2.step bx)); replace BB := hide (Below.step1 BB.out bx); replace B := hide (Below.step B.out B.out.size bx))
                | (go_at_call 16; refine Calls.mono (rfto_any (r := (ai : Rat)) (L := 5 * 8) ?_ (by omega)) ?_; (focus ((repeat (first | (with_reducible assumption) | (with_reducible refine Rf.step ?_ (by with_reducible assumption)))); done)); rintro e wx ⟨vx, rfl, tx, bx⟩; replace P := hide ((And.intro (P.out.1.step bx) (And.intro (P.out.2.1.step bx) (And.intro (P.out.2.2.1.step bx) (And.intro (P.out.2.2.2.1.step bx) (And.intro (P.out.2.2.2.2.1.step bx) (And.intro (P.out.2.2.2.2.2.1.step bx) (And.intro (P.out.2.2.2.2.2.2.1.step bx) (P.out.2.2.2.2.2.2.2.step bx))))))))); replace R := hide ((And.intro (R.out.1.step bx) (And.intro (R.out.2.1.step bx) (And.intro (R.out.2.2.1.step bx) (R.out.2.2.2.step bx))))); replace QQ := hide (And.intro (QQ.out.1.step bx) (QQ.out.2.step bx)); replace O7 := hide (And.intro (O7.out.1.step bx) (O7.out.2.step bx)); replace HC := hide (HC.out.step bx); replace C9 := hide (C9.out.step bx); replace O9 := hide (And.intro (O9.out.1.step bx) (O9.out.2.step bx)); replace BB := hide (Below.step1 BB.out bx); replace B := hide (Below.step B.out B.out.size bx))
                | (go_at_call 15; refine Calls.mono (rsame_c (r := (ai : Rat)) (L := 8) (M := 5 * 8) ?_ ?_) ?_; (focus ((with_reducible exact C9.out); done)); (focus ((repeat (first | (with_reducible assumption) | (with_reducible exact C9.out) | (with_reducible refine Rc.step ?_ (by with_reducible assumption)))); done)); rintro e wx ⟨rfl, bx⟩; replace P := hide ((And.intro (P.out.1.step bx) (And.intro (P.out.2.1.step bx) (And.intro (P.out.2.2.1.step bx) (And.intro (P.out.2.2.2.1.step bx) (And.intro (P.out.2.2.2.2.1.step bx) (And.intro (P.out.2.2.2.2.2.1.step bx) (And.intro (P.out.2.2.2.2.2.2.1.step bx) (P.out.2.2.2.2.2.2.2.step bx))))))))); replace R := hide ((And.intro (R.out.1.step bx) (And.intro (R.out.2.1.step bx) (And.intro (R.out.2.2.1.step bx) (R.out.2.2.2.step bx))))); replace QQ := hide (And.intro (QQ.out.1.step bx) (QQ.out.2.step bx)); replace O7 := hide (And.intro (O7.out.1.step bx) (O7.out.2.step bx)); replace HC := hide (HC.out.step bx); replace C9 := hide (C9.out.step bx); replace O9 := hide (And.intro (O9.out.1.step bx) (O9.out.2.step bx)); replace BB := hide (Below.step1 BB.out bx); replace B := hide (Below.step B.out B.out.size bx))
                | (go_at_call 18; refine Calls.mono (zsame_l (xs := xsa) (L := 8) (M := 8) ?_ ?_) ?_; (focus ((with_reducible exact R.out.2.2.1); done)); (focus ((with_reducible exact R.out.1); done)); rintro e wx ⟨rfl, bx⟩; replace P := hide ((And.intro (P.out.1.step bx) (And.intro (P.out.2.1.step bx) (And.intro (P.out.2.2.1.step bx) (And.intro (P.out.2.2.2.1.step bx) (And.intro (P.out.2.2.2.2.1.step bx) (And.intro (P.out.2.2.2.2.2.1.step bx) (And.intro (P.out.2.2.2.2.2.2.1.step bx) (P.out.2.2.2.2.2.2.2.step bx))))))))); replace R := hide ((And.intro (R.out.1.step bx) (And.intro (R.out.2.1.step bx) (And.intro (R.out.2.2.1.step bx) (R.out.2.2.2.step bx))))); replace QQ := hide (And.intro (QQ.out.1.step bx) (QQ.out.2.step bx)); replace O7 := hide (And.intro (O7.out.1.step bx) (O7.out.2.step bx)); replace HC := hide (HC.out.step bx); replace C9 := hide (C9.out.step bx); replace O9 := hide (And.intro (O9.out.1.step bx) (O9.out.2.step bx)); replace BB := hide (Below.step1 BB.out bx); replace B := hide (Below.step B.out B.out.size bx))
                | (go_at_call 18; refine Calls.mono (zsame_l (xs := xsb) (L := 8) (M := 8) ?_ ?_) ?_; (focus ((with_reducible exact R.out.2.2.2); done)); (focus ((with_reducible exact R.out.2.1); done)); rintro e wx ⟨rfl, bx⟩; replace P := hide ((And.intro (P.out.1.step bx) (And.intro (P.out.2.1.step bx) (And.intro (P.out.2.2.1.step bx) (And.intro (P.out.2.2.2.1.step bx) (And.intro (P.out.2.2.2.2.1.step bx) (And.intro (P.out.2.2.2.2.2.1.step bx) (And.intro (P.out.2.2.2.2.2.2.1.step bx) (P.out.2.2.2.2.2.2.2.step bx))))))))); replace R := hide ((And.intro (R.out.1.step bx) (And.intro (R.out.2.1.step bx) (And.intro (R.out.2.2.1.step bx) (R.out.2.2.2.step bx))))); replace QQ := hide (And.intro (QQ.out.1.step bx) (QQ.out.2.step bx)); replace O7 := hide (And.intro (O7.out.1.step bx) (O7.out.2.step bx)); replace HC := hide (HC.out.step bx); replace C9 := hide (C9.out.step bx); replace O9 := hide (And.intro (O9.out.1.step bx) (O9.out.2.step bx)); replace BB := hide (Below.step1 BB.out bx); replace B := hide (Below.step B.out B.out.size bx)))
            all_goals
              generalize wx = w9 at *
              have SG := hide (qsign_any QQ.out.2)
              obtain ⟨-, -, -, -, -, -, ⟨p0, p1⟩, -⟩ := P.out
              have hz : (zsg bi == 0) = false := beq_eq_false_iff_ne.2 (by have := HB.out; unfold zsg; split <;> (try split) <;> omega)
              obtain ⟨oz, hoz⟩ : ∃ oz, Hid (zsg bi = oz) := ⟨_, hide rfl⟩
              rw [hoz.out] at hz SG
              go_wp2_with fail
              refine SG.out.mono ?_
              rintro e w10 ⟨rfl, bx0⟩
              have bx := Below.step1 bx0 (Below.drew (Below.refl w10.heap.size w10))
              replace P := hide ((And.intro (P.out.1.step bx) (And.intro (P.out.2.1.step bx) (And.intro (P.out.2.2.1.step bx) (And.intro (P.out.2.2.2.1.step bx) (And.intro (P.out.2.2.2.2.1.step bx) (And.intro (P.out.2.2.2.2.2.1.step bx) (And.intro (P.out.2.2.2.2.2.2.1.step bx) (P.out.2.2.2.2.2.2.2.step bx)))))))))
              replace R := hide ((And.intro (R.out.1.step bx) (And.intro (R.out.2.1.step bx) (And.intro (R.out.2.2.1.step bx) (R.out.2.2.2.step bx)))))
              replace QQ := hide (And.intro (QQ.out.1.step bx) (QQ.out.2.step bx))
              replace O7 := hide (And.intro (O7.out.1.step bx) (O7.out.2.step bx))
              replace HC := hide (HC.out.step bx)
              replace C9 := hide (C9.out.step bx)
              replace O9 := hide (And.intro (O9.out.1.step bx) (O9.out.2.step bx))
              replace BB := hide (Below.step1 BB.out bx)
              replace B := hide (Below.step B.out B.out.size bx)
              clear bx bx0 p0 p1 SG
              go_wp2_with fail
              go_region_held3 (fun W => (W.cell? ⟨w.heap.size, 0, none⟩ = some (.bool sa) ∧ W.cell? ⟨w.heap.size, 1, none⟩ = some (.slice Aa na ca)) ∧ (W.cell? ⟨w.heap.size + 1, 0, none⟩ = some (.bool sb) ∧ W.cell? ⟨w.heap.size + 1, 1, none⟩ = some (.slice Ab nb cb)) ∧ (W.cell? ⟨g0, 0, none⟩ = some (.bool sa) ∧ W.cell? ⟨g0, 1, none⟩ = some (.slice Ax nx cx)) ∧ (W.cell? ⟨g1, 0, none⟩ = some (.bool sb) ∧ W.cell? ⟨g1, 1, none⟩ = some (.slice Ay ny cy)) ∧ (W.cell? ⟨g7, 0, none⟩ = some (.bool s7) ∧ W.cell? ⟨g7, 1, none⟩ = some (.slice A7 n7 c7) ∧ W.cell? ⟨g7, 2, none⟩ = some (.slice D7 m7 d7)) ∧ (W.cell? ⟨h0, 0, none⟩ = some (.bool se) ∧ W.cell? ⟨h0, 1, none⟩ = some (.slice Ae ne ce)) ∧ (W.cell? ⟨h1, 0, none⟩ = some (.bool sf) ∧ W.cell? ⟨h1, 1, none⟩ = some (.slice Af nf cf)) ∧ (W.cell? ⟨g11, 0, none⟩ = some (.bool s9) ∧ W.cell? ⟨g11, 1, none⟩ = some (.slice A9 n9 c9) ∧ W.cell? ⟨g11, 2, none⟩ = some (.slice D9 m9 d9)))
                (exact P.out)
                (first
                  | (go_at_call 20; refine Calls.mono (rmake_any (a := ai) (b := bi) (L := 5 * 8) QQ.out.1 QQ.out.2 HB.out (by omega) (by omega)) ?_; rintro e wx ⟨vx, rfl, tx, bx⟩; replace P := hide ((And.intro (P.out.1.step bx) (And.intro (P.out.2.1.step bx) (And.intro (P.out.2.2.1.step bx) (And.intro (P.out.2.2.2.1.step bx) (And.intro (P.out.2.2.2.2.1.step bx) (And.intro (P.out.2.2.2.2.2.1.step bx) (And.intro (P.out.2.2.2.2.2.2.1.step bx) (P.out.2.2.2.2.2.2.2.step bx))))))))); replace R := hide ((And.intro (R.out.1.step bx) (And.intro (R.out.2.1.step bx) (And.intro (R.out.2.2.1.step bx) (R.out.2.2.2.step bx))))); replace QQ := hide (And.intro (QQ.out.1.step bx) (QQ.out.2.step bx)); replace O7 := hide (And.intro (O7.out.1.step bx) (O7.out.2.step bx)); replace HC := hide (HC.out.step bx); replace C9 := hide (C9.out.step bx); replace O9 := hide (And.intro (O9.out.1.step bx) (O9.out.2.step bx)); replace BB := hide (Below.step1 BB.out bx); replace B := hide (Below.step B.out B.out.size bx))
                  | (go_at_call 16; refine Calls.mono (rfto_any (r := (ai : Rat) / (bi : Rat)) (L := 5 * 8) ?_ (by omega)) ?_; (focus ((repeat (first | (with_reducible assumption) | (with_reducible refine Rf.step ?_ (by with_reducible assumption)))); done)); rintro e wx ⟨vx, rfl, tx, bx⟩; replace P := hide ((And.intro (P.out.1.step bx) (And.intro (P.out.2.1.step bx) (And.intro (P.out.2.2.1.step bx) (And.intro (P.out.2.2.2.1.step bx) (And.intro (P.out.2.2.2.2.1.step bx) (And.intro (P.out.2.2.2.2.2.1.step bx) (And.intro (P.out.2.2.2.2.2.2.1.step bx) (P.out.2.2.2.2.2.2.2.step bx))))))))); replace R := hide ((And.intro (R.out.1.step bx) (And.intro (R.out.2.1.step bx) (And.intro (R.out.2.2.1.step bx) (R.out.2.2.2.step bx))))); replace QQ := hide (And.intro (QQ.out.1.step bx) (QQ.out.2.step bx)); replace O7 := hide (And.intro (O7.out.1.step bx) (O7.out.2.step bx)); replace HC := hide (HC.out.step bx); replace C9 := hide (C9.out.step bx); replace O9 := hide (And.intro (O9.out.1.step bx) (O9.out.2.step bx)); replace BB := hide (Below.step1 BB.out bx); replace B := hide (Below.step B.out B.out.size bx))
                  | (go_at_call 15; refine Calls.mono (rsame_c (r := (ai : Rat) / (bi : Rat)) (L := 8) (M := 5 * 8) ?_ ?_) ?_; (focus ((with_reducible exact HC.out); done)); (focus ((repeat (first | (with_reducible assumption) | (with_reducible exact HC.out) | (with_reducible refine Rc.step ?_ (by with_reducible assumption)))); done)); rintro e wx ⟨rfl, bx⟩; replace P := hide ((And.intro (P.out.1.step bx) (And.intro (P.out.2.1.step bx) (And.intro (P.out.2.2.1.step bx) (And.intro (P.out.2.2.2.1.step bx) (And.intro (P.out.2.2.2.2.1.step bx) (And.intro (P.out.2.2.2.2.2.1.step bx) (And.intro (P.out.2.2.2.2.2.2.1.step bx) (P.out.2.2.2.2.2.2.2.step bx))))))))); replace R := hide ((And.intro (R.out.1.step bx) (And.intro (R.out.2.1.step bx) (And.intro (R.out.2.2.1.step bx) (R.out.2.2.2.step bx))))); replace QQ := hide (And.intro (QQ.out.1.step bx) (QQ.out.2.step bx)); replace O7 := hide (And.intro (O7.out.1.step bx) (O7.out.2.step bx)); replace HC := hide (HC.out.step bx); replace C9 := hide (C9.out.step bx); replace O9 := hide (And.intro (O9.out.1.step bx) (O9.out.2.step bx)); replace BB := hide (Below.step1 BB.out bx); replace B := hide (Below.step B.out B.out.size bx)))
              all_goals
                generalize wx = w11 at *
                obtain ⟨-, -, -, -, ⟨p0, p1, p2⟩, -, -, -⟩ := P.out
                have hm := cell_lt P.out.2.2.2.2.2.2.2.1
                have hle : g7 ≤ g11 := by have := H7.out; omega
                have Y11 := P.out.2.2.2.2.2.2.2
                go_wp2_with fail
                refine (rspoil_own O7.out.1 O7.out.2 DJ.out).mono ?_
                rintro e w12 ⟨rfl, wm, hg1, hg2⟩
                have B1 := push_below BB.out O7.out.1 hg1 BB.out.size
                have o2 := O7.out.2.grown hg1 (own_ne DJ.out)
                have B2 := push_below B1 o2 hg2 B1.size
                have O9 := hide (And.intro ((O9.out.1.grown hg1 (own_ne D11.out)).grown hg2 (own_ne D21.out)) ((O9.out.2.grown hg1 (own_ne D12.out)).grown hg2 (own_ne D22.out)))
                have Y11 := (Y11.grown hg1 hm (fun h => by have := L1.out _ h; omega)).grown hg2 (Nat.lt_of_lt_of_le hm hg1.size) (fun h => by have := L2.out _ h; omega)
                have BB := hide B2
                clear hg1 hg2 B1 B2 o2 P O7 p0 p1 p2 HC C9 QQ R B
                obtain ⟨p0, p1, p2⟩ := Y11
                go_wp2_with fail
                refine (rspoil_own O9.out.1 O9.out.2 DJ9.out).mono ?_
                rintro e w13 ⟨rfl, wm2, hg1, hg2⟩
                have B1 := push_below BB.out O9.out.1 hg1 BB.out.size
                have o2 := O9.out.2.grown hg1 (own_ne DJ9.out)
                have bx := push_below B1 o2 hg2 B1.size
                clear hg1 hg2 B1 o2 O9 p0 p1 p2 BB
                have P := hide ((And.intro (PM.out.1.step bx) (And.intro (PM.out.2.1.step bx) (And.intro (PM.out.2.2.1.step bx) (PM.out.2.2.2.step bx)))))
                have R := hide ((And.intro (RM.out.1.step bx) (And.intro (RM.out.2.1.step bx) (And.intro (RM.out.2.2.1.step bx) (RM.out.2.2.2.step bx)))))
                have B := hide (Below.step BM.out BM.out.size bx)
                clear bx PM RM BM
                obtain ⟨⟨a0, a1⟩, ⟨b0, b1⟩, ⟨x0, x1⟩, y0, y1⟩ := P.out
                go_wp2_with fail
                refine (zsame_l (s := sa) R.out.2.2.1 R.out.1).mono ?_
                rintro e w14 ⟨rfl, bx⟩
                replace P := hide ((And.intro (P.out.1.step bx) (And.intro (P.out.2.1.step bx) (And.intro (P.out.2.2.1.step bx) (P.out.2.2.2.step bx)))))
                replace R := hide ((And.intro (R.out.1.step bx) (And.intro (R.out.2.1.step bx) (And.intro (R.out.2.2.1.step bx) (R.out.2.2.2.step bx)))))
                replace B := hide (Below.step B.out B.out.size bx)
                clear bx a0 a1 b0 b1 x0 x1 y0 y1
                obtain ⟨⟨a0, a1⟩, ⟨b0, b1⟩, ⟨x0, x1⟩, y0, y1⟩ := P.out
                go_wp2_with fail
                refine (zsame_l (s := sb) R.out.2.2.2 R.out.2.1).mono ?_
                rintro e w15 ⟨rfl, bx⟩
                replace B := hide (Below.step B.out B.out.size bx)
                clear bx a0 a1 b0 b1 x0 x1 y0 y1
                go_wp2_with fail
                go_ret
                exact ⟨rfl, B.out⟩
          refine wpAnyH_with 3 #[true, true, true, true, true, false, false, false] (fun a W => ∃ (se : Bool) (Ae : Option Addr) (ne ce : Nat) (sf : Bool) (Af : Option Addr) (nf cf : Nat) (h0 : Nat), a = ⟨#[zv sa (.slice Aa na ca), zv sb (.slice Ab nb cb), .pointer (some ⟨w.heap.size, 0, none⟩), .pointer (some ⟨w.heap.size + 1, 0, none⟩), .bool false, .pointer (some ⟨g0, 0, none⟩), .pointer (some ⟨g1, 0, none⟩), .pointer (some ⟨g7, 0, none⟩), .int .i64 0, .pointer (some ⟨h0, 0, none⟩), undef, undef, undef, .bool true, .bool false, .pointer (some ⟨w.heap.size, 1, none⟩), .slice Aa na ca, .int .i64 ((na : Nat) : Int), .bool false, .bool false, .pointer (some ⟨w.heap.size + 1, 1, none⟩), .slice Ab nb cb, .int .i64 ((nb : Nat) : Int), .bool false, .bool false, zv sa (.slice Aa na ca), zv sa (.slice Ax nx cx), zv sb (.slice Ab nb cb), zv sb (.slice Ay ny cy), .tuple #[rv s7 (.slice A7 n7 c7) (.slice D7 m7 d7), .int .i64 0], zv sa (.slice Ax nx cx), zv sb (.slice Ay ny cy), .tuple #[rv s7 (.slice A7 n7 c7) (.slice D7 m7 d7), .int .i64 0], rv s7 (.slice A7 n7 c7) (.slice D7 m7 d7), .int .i64 0, zv sa (.slice Aa na ca), zv se (.slice Ae ne ce), zv sb (.slice Ab nb cb), zv sf (.slice Af nf cf), undef, undef, undef, undef, undef, undef, undef, undef, undef, undef, undef, undef, undef, undef, undef, undef, undef, undef, undef, undef, undef, undef, undef, undef, undef, undef, undef, undef, undef, undef, undef, undef, undef, undef, undef, undef, undef, undef, undef, undef, undef, undef, undef, undef, undef, undef, undef, undef, undef, undef, undef, undef, undef, undef, undef], []⟩ ∧ Sg w5.drew.heap.size w5.drew W [qblk, qblk] [some h0, none] (fun W => ((True ∧ Qi W (zv se (.slice Ae ne ce)) ai (5 * 8)) ∧ Qi W (zv sf (.slice Af nf cf)) bi (5 * 8)))) ?_ (fun Hs210 => ?_)
          · rintro a W ⟨se, Ae, ne, ce, sf, Af, nf, cf, h0, rfl, st0⟩
            have hHeld := st0.1
            have st := hide st0
            clear st0
            refine wpAnyH_ready (rs := [5]) (by kernel_rfl) (by simp) ?_
            refine AllReadyH.cons rfl (fun K hK => ?_) ?_
            · go_simp
              have st2 := Sg.make st.out (Firm2.and (Firm2.and Firm2.yes (Firm2.qi _ _ _)) (Firm2.qi _ _ _)) 1 _ rfl (by simp)
              refine hK.out _ _ st2.1 (fun hHeld => ?_)
              (try simp only [Act.put, List.setIfInBounds_toArray, List.set_cons_zero, List.set_cons_succ])
              exact Hs211.out _ _ ⟨se, Ae, ne, ce, sf, Af, nf, cf, h0, W.heap.size, rfl, st2⟩
            exact AllReadyH.nil
          refine wpAnyH_with 3 #[true, true, true, true, false, true, false, false] (fun a W => ∃ (se : Bool) (Ae : Option Addr) (ne ce : Nat) (sf : Bool) (Af : Option Addr) (nf cf : Nat) (h1 : Nat), a = ⟨#[zv sa (.slice Aa na ca), zv sb (.slice Ab nb cb), .pointer (some ⟨w.heap.size, 0, none⟩), .pointer (some ⟨w.heap.size + 1, 0, none⟩), .bool false, .pointer (some ⟨g0, 0, none⟩), .pointer (some ⟨g1, 0, none⟩), .pointer (some ⟨g7, 0, none⟩), .int .i64 0, undef, .pointer (some ⟨h1, 0, none⟩), undef, undef, .bool true, .bool false, .pointer (some ⟨w.heap.size, 1, none⟩), .slice Aa na ca, .int .i64 ((na : Nat) : Int), .bool false, .bool false, .pointer (some ⟨w.heap.size + 1, 1, none⟩), .slice Ab nb cb, .int .i64 ((nb : Nat) : Int), .bool false, .bool false, zv sa (.slice Aa na ca), zv sa (.slice Ax nx cx), zv sb (.slice Ab nb cb), zv sb (.slice Ay ny cy), .tuple #[rv s7 (.slice A7 n7 c7) (.slice D7 m7 d7), .int .i64 0], zv sa (.slice Ax nx cx), zv sb (.slice Ay ny cy), .tuple #[rv s7 (.slice A7 n7 c7) (.slice D7 m7 d7), .int .i64 0], rv s7 (.slice A7 n7 c7) (.slice D7 m7 d7), .int .i64 0, zv sa (.slice Aa na ca), zv se (.slice Ae ne ce), zv sb (.slice Ab nb cb), zv sf (.slice Af nf cf), undef, undef, undef, undef, undef, undef, undef, undef, undef, undef, undef, undef, undef, undef, undef, undef, undef, undef, undef, undef, undef, undef, undef, undef, undef, undef, undef, undef, undef, undef, undef, undef, undef, undef, undef, undef, undef, undef, undef, undef, undef, undef, undef, undef, undef, undef, undef, undef, undef, undef, undef, undef, undef, undef, undef], []⟩ ∧ Sg w5.drew.heap.size w5.drew W [qblk, qblk] [none, some h1] (fun W => ((True ∧ Qi W (zv se (.slice Ae ne ce)) ai (5 * 8)) ∧ Qi W (zv sf (.slice Af nf cf)) bi (5 * 8)))) ?_ (fun Hs201 => ?_)
          · rintro a W ⟨se, Ae, ne, ce, sf, Af, nf, cf, h1, rfl, st0⟩
            have hHeld := st0.1
            have st := hide st0
            clear st0
            refine wpAnyH_ready (rs := [4]) (by kernel_rfl) (by simp) ?_
            refine AllReadyH.cons rfl (fun K hK => ?_) ?_
            · go_simp
              have st2 := Sg.make st.out (Firm2.and (Firm2.and Firm2.yes (Firm2.qi _ _ _)) (Firm2.qi _ _ _)) 0 _ rfl (by simp)
              refine hK.out _ _ st2.1 (fun hHeld => ?_)
              (try simp only [Act.put, List.setIfInBounds_toArray, List.set_cons_zero, List.set_cons_succ])
              exact Hs211.out _ _ ⟨se, Ae, ne, ce, sf, Af, nf, cf, W.heap.size, h1, rfl, st2⟩
            exact AllReadyH.nil
          refine wpAnyH_with 4 #[true, true, true, true, false, false, false, false] (fun a W => ∃ (se : Bool) (Ae : Option Addr) (ne ce : Nat) (sf : Bool) (Af : Option Addr) (nf cf : Nat), a = ⟨#[zv sa (.slice Aa na ca), zv sb (.slice Ab nb cb), .pointer (some ⟨w.heap.size, 0, none⟩), .pointer (some ⟨w.heap.size + 1, 0, none⟩), .bool false, .pointer (some ⟨g0, 0, none⟩), .pointer (some ⟨g1, 0, none⟩), .pointer (some ⟨g7, 0, none⟩), .int .i64 0, undef, undef, undef, undef, .bool true, .bool false, .pointer (some ⟨w.heap.size, 1, none⟩), .slice Aa na ca, .int .i64 ((na : Nat) : Int), .bool false, .bool false, .pointer (some ⟨w.heap.size + 1, 1, none⟩), .slice Ab nb cb, .int .i64 ((nb : Nat) : Int), .bool false, .bool false, zv sa (.slice Aa na ca), zv sa (.slice Ax nx cx), zv sb (.slice Ab nb cb), zv sb (.slice Ay ny cy), .tuple #[rv s7 (.slice A7 n7 c7) (.slice D7 m7 d7), .int .i64 0], zv sa (.slice Ax nx cx), zv sb (.slice Ay ny cy), .tuple #[rv s7 (.slice A7 n7 c7) (.slice D7 m7 d7), .int .i64 0], rv s7 (.slice A7 n7 c7) (.slice D7 m7 d7), .int .i64 0, zv sa (.slice Aa na ca), zv se (.slice Ae ne ce), zv sb (.slice Ab nb cb), zv sf (.slice Af nf cf), undef, undef, undef, undef, undef, undef, undef, undef, undef, undef, undef, undef, undef, undef, undef, undef, undef, undef, undef, undef, undef, undef, undef, undef, undef, undef, undef, undef, undef, undef, undef, undef, undef, undef, undef, undef, undef, undef, undef, undef, undef, undef, undef, undef, undef, undef, undef, undef, undef, undef, undef, undef, undef, undef, undef], []⟩ ∧ Sg w5.drew.heap.size w5.drew W [qblk, qblk] [none, none] (fun W => ((True ∧ Qi W (zv se (.slice Ae ne ce)) ai (5 * 8)) ∧ Qi W (zv sf (.slice Af nf cf)) bi (5 * 8)))) ?_ (fun Hs200 => ?_)
          · rintro a W ⟨se, Ae, ne, ce, sf, Af, nf, cf, rfl, st0⟩
            have hHeld := st0.1
            have st := hide st0
            clear st0
            refine wpAnyH_ready (rs := [4, 5]) (by kernel_rfl) (by simp) ?_
            refine AllReadyH.cons rfl (fun K hK => ?_) ?_
            · go_simp
              have st2 := Sg.make st.out (Firm2.and (Firm2.and Firm2.yes (Firm2.qi _ _ _)) (Firm2.qi _ _ _)) 0 _ rfl (by simp)
              refine hK.out _ _ st2.1 (fun hHeld => ?_)
              (try simp only [Act.put, List.setIfInBounds_toArray, List.set_cons_zero, List.set_cons_succ])
              exact Hs210.out _ _ ⟨se, Ae, ne, ce, sf, Af, nf, cf, W.heap.size, rfl, st2⟩
            refine AllReadyH.cons rfl (fun K hK => ?_) ?_
            · go_simp
              have st2 := Sg.make st.out (Firm2.and (Firm2.and Firm2.yes (Firm2.qi _ _ _)) (Firm2.qi _ _ _)) 1 _ rfl (by simp)
              refine hK.out _ _ st2.1 (fun hHeld => ?_)
              (try simp only [Act.put, List.setIfInBounds_toArray, List.set_cons_zero, List.set_cons_succ])
              exact Hs201.out _ _ ⟨se, Ae, ne, ce, sf, Af, nf, cf, W.heap.size, rfl, st2⟩
            exact AllReadyH.nil
          refine wpAnyH_with 3 #[true, true, true, false, true, true, false, false] (fun a W => ∃ (se : Bool) (Ae : Option Addr) (ne ce : Nat) (h0 : Nat) (h1 : Nat), a = ⟨#[zv sa (.slice Aa na ca), zv sb (.slice Ab nb cb), .pointer (some ⟨w.heap.size, 0, none⟩), .pointer (some ⟨w.heap.size + 1, 0, none⟩), .bool false, .pointer (some ⟨g0, 0, none⟩), .pointer (some ⟨g1, 0, none⟩), .pointer (some ⟨g7, 0, none⟩), .int .i64 0, .pointer (some ⟨h0, 0, none⟩), .pointer (some ⟨h1, 0, none⟩), undef, undef, .bool true, .bool false, .pointer (some ⟨w.heap.size, 1, none⟩), .slice Aa na ca, .int .i64 ((na : Nat) : Int), .bool false, .bool false, .pointer (some ⟨w.heap.size + 1, 1, none⟩), .slice Ab nb cb, .int .i64 ((nb : Nat) : Int), .bool false, .bool false, zv sa (.slice Aa na ca), zv sa (.slice Ax nx cx), zv sb (.slice Ab nb cb), zv sb (.slice Ay ny cy), .tuple #[rv s7 (.slice A7 n7 c7) (.slice D7 m7 d7), .int .i64 0], zv sa (.slice Ax nx cx), zv sb (.slice Ay ny cy), .tuple #[rv s7 (.slice A7 n7 c7) (.slice D7 m7 d7), .int .i64 0], rv s7 (.slice A7 n7 c7) (.slice D7 m7 d7), .int .i64 0, zv sa (.slice Aa na ca), zv se (.slice Ae ne ce), zv sb (.slice Ab nb cb), undef, undef, undef, undef, undef, undef, undef, undef, undef, undef, undef, undef, undef, undef, undef, undef, undef, undef, undef, undef, undef, undef, undef, undef, undef, undef, undef, undef, undef, undef, undef, undef, undef, undef, undef, undef, undef, undef, undef, undef, undef, undef, undef, undef, undef, undef, undef, undef, undef, undef, undef, undef, undef, undef, undef, undef], []⟩ ∧ Sg w5.drew.heap.size w5.drew W [qblk, qblk] [some h0, some h1] (fun W => (True ∧ Qi W (zv se (.slice Ae ne ce)) ai (5 * 8)))) ?_ (fun Hs111 => ?_)
          · rintro a W ⟨se, Ae, ne, ce, h0, h1, rfl, st0⟩
            have hHeld := st0.1
            have st := hide st0
            clear st0
            refine wpAnyH_ready (rs := [3]) (by kernel_rfl) (by simp) ?_
            refine AllReadyH.cons rfl (fun K hK => ?_) ?_
            · go_simp
              go_at_call 13
              refine Calls.mono (qof_any (L := 8) (HBB.out _ _ _ _ (R.out.2.1.step st.out.1)) (by omega)) ?_
              rintro e wx ⟨v9, rfl, tx, bx⟩
              obtain ⟨sf, xf, Af, nf, cf, rfl, -, -, -⟩ := id tx.parts
              try dsimp only
              have st2 := Sg.call (G := fun W => Qi W (zv sf (.slice Af nf cf)) bi (5 * 8)) st.out bx (Firm2.and Firm2.yes (Firm2.qi _ _ _)) tx
              have hSt := hide st2
              refine hK.out _ _ st2.1 (fun hHeld => ?_)
              clear hK K st2
              (try simp only [Act.put, List.setIfInBounds_toArray, List.set_cons_zero, List.set_cons_succ])
              exact Hs211.out _ _ ⟨se, Ae, ne, ce, sf, Af, nf, cf, h0, h1, rfl, hSt.out⟩
            exact AllReadyH.nil
          refine wpAnyH_with 4 #[true, true, true, false, true, false, false, false] (fun a W => ∃ (se : Bool) (Ae : Option Addr) (ne ce : Nat) (h0 : Nat), a = ⟨#[zv sa (.slice Aa na ca), zv sb (.slice Ab nb cb), .pointer (some ⟨w.heap.size, 0, none⟩), .pointer (some ⟨w.heap.size + 1, 0, none⟩), .bool false, .pointer (some ⟨g0, 0, none⟩), .pointer (some ⟨g1, 0, none⟩), .pointer (some ⟨g7, 0, none⟩), .int .i64 0, .pointer (some ⟨h0, 0, none⟩), undef, undef, undef, .bool true, .bool false, .pointer (some ⟨w.heap.size, 1, none⟩), .slice Aa na ca, .int .i64 ((na : Nat) : Int), .bool false, .bool false, .pointer (some ⟨w.heap.size + 1, 1, none⟩), .slice Ab nb cb, .int .i64 ((nb : Nat) : Int), .bool false, .bool false, zv sa (.slice Aa na ca), zv sa (.slice Ax nx cx), zv sb (.slice Ab nb cb), zv sb (.slice Ay ny cy), .tuple #[rv s7 (.slice A7 n7 c7) (.slice D7 m7 d7), .int .i64 0], zv sa (.slice Ax nx cx), zv sb (.slice Ay ny cy), .tuple #[rv s7 (.slice A7 n7 c7) (.slice D7 m7 d7), .int .i64 0], rv s7 (.slice A7 n7 c7) (.slice D7 m7 d7), .int .i64 0, zv sa (.slice Aa na ca), zv se (.slice Ae ne ce), zv sb (.slice Ab nb cb), undef, undef, undef, undef, undef, undef, undef, undef, undef, undef, undef, undef, undef, undef, undef, undef, undef, undef, undef, undef, undef, undef, undef, undef, undef, undef, undef, undef, undef, undef, undef, undef, undef, undef, undef, undef, undef, undef, undef, undef, undef, undef, undef, undef, undef, undef, undef, undef, undef, undef, undef, undef, undef, undef, undef, undef], []⟩ ∧ Sg w5.drew.heap.size w5.drew W [qblk, qblk] [some h0, none] (fun W => (True ∧ Qi W (zv se (.slice Ae ne ce)) ai (5 * 8)))) ?_ (fun Hs110 => ?_)
          · rintro a W ⟨se, Ae, ne, ce, h0, rfl, st0⟩
            have hHeld := st0.1
            have st := hide st0
            clear st0
            refine wpAnyH_ready (rs := [3, 5]) (by kernel_rfl) (by simp) ?_
            refine AllReadyH.cons rfl (fun K hK => ?_) ?_
            · go_simp
              go_at_call 13
              refine Calls.mono (qof_any (L := 8) (HBB.out _ _ _ _ (R.out.2.1.step st.out.1)) (by omega)) ?_
              rintro e wx ⟨v9, rfl, tx, bx⟩
              obtain ⟨sf, xf, Af, nf, cf, rfl, -, -, -⟩ := id tx.parts
              try dsimp only
              have st2 := Sg.call (G := fun W => Qi W (zv sf (.slice Af nf cf)) bi (5 * 8)) st.out bx (Firm2.and Firm2.yes (Firm2.qi _ _ _)) tx
              have hSt := hide st2
              refine hK.out _ _ st2.1 (fun hHeld => ?_)
              clear hK K st2
              (try simp only [Act.put, List.setIfInBounds_toArray, List.set_cons_zero, List.set_cons_succ])
              exact Hs210.out _ _ ⟨se, Ae, ne, ce, sf, Af, nf, cf, h0, rfl, hSt.out⟩
            refine AllReadyH.cons rfl (fun K hK => ?_) ?_
            · go_simp
              have st2 := Sg.make st.out (Firm2.and Firm2.yes (Firm2.qi _ _ _)) 1 _ rfl (by simp)
              refine hK.out _ _ st2.1 (fun hHeld => ?_)
              (try simp only [Act.put, List.setIfInBounds_toArray, List.set_cons_zero, List.set_cons_succ])
              exact Hs111.out _ _ ⟨se, Ae, ne, ce, h0, W.heap.size, rfl, st2⟩
            exact AllReadyH.nil
          refine wpAnyH_with 4 #[true, true, true, false, false, true, false, false] (fun a W => ∃ (se : Bool) (Ae : Option Addr) (ne ce : Nat) (h1 : Nat), a = ⟨#[zv sa (.slice Aa na ca), zv sb (.slice Ab nb cb), .pointer (some ⟨w.heap.size, 0, none⟩), .pointer (some ⟨w.heap.size + 1, 0, none⟩), .bool false, .pointer (some ⟨g0, 0, none⟩), .pointer (some ⟨g1, 0, none⟩), .pointer (some ⟨g7, 0, none⟩), .int .i64 0, undef, .pointer (some ⟨h1, 0, none⟩), undef, undef, .bool true, .bool false, .pointer (some ⟨w.heap.size, 1, none⟩), .slice Aa na ca, .int .i64 ((na : Nat) : Int), .bool false, .bool false, .pointer (some ⟨w.heap.size + 1, 1, none⟩), .slice Ab nb cb, .int .i64 ((nb : Nat) : Int), .bool false, .bool false, zv sa (.slice Aa na ca), zv sa (.slice Ax nx cx), zv sb (.slice Ab nb cb), zv sb (.slice Ay ny cy), .tuple #[rv s7 (.slice A7 n7 c7) (.slice D7 m7 d7), .int .i64 0], zv sa (.slice Ax nx cx), zv sb (.slice Ay ny cy), .tuple #[rv s7 (.slice A7 n7 c7) (.slice D7 m7 d7), .int .i64 0], rv s7 (.slice A7 n7 c7) (.slice D7 m7 d7), .int .i64 0, zv sa (.slice Aa na ca), zv se (.slice Ae ne ce), zv sb (.slice Ab nb cb), undef, undef, undef, undef, undef, undef, undef, undef, undef, undef, undef, undef, undef, undef, undef, undef, undef, undef, undef, undef, undef, undef, undef, undef, undef, undef, undef, undef, undef, undef, undef, undef, undef, undef, undef, undef, undef, undef, undef, undef, undef, undef, undef, undef, undef, undef, undef, undef, undef, undef, undef, undef, undef, undef, undef, undef], []⟩ ∧ Sg w5.drew.heap.size w5.drew W [qblk, qblk] [none, some h1] (fun W => (True ∧ Qi W (zv se (.slice Ae ne ce)) ai (5 * 8)))) ?_ (fun Hs101 => ?_)
          · rintro a W ⟨se, Ae, ne, ce, h1, rfl, st0⟩
            have hHeld := st0.1
            have st := hide st0
            clear st0
            refine wpAnyH_ready (rs := [3, 4]) (by kernel_rfl) (by simp) ?_
            refine AllReadyH.cons rfl (fun K hK => ?_) ?_
            · go_simp
              go_at_call 13
              refine Calls.mono (qof_any (L := 8) (HBB.out _ _ _ _ (R.out.2.1.step st.out.1)) (by omega)) ?_
              rintro e wx ⟨v9, rfl, tx, bx⟩
              obtain ⟨sf, xf, Af, nf, cf, rfl, -, -, -⟩ := id tx.parts
              try dsimp only
              have st2 := Sg.call (G := fun W => Qi W (zv sf (.slice Af nf cf)) bi (5 * 8)) st.out bx (Firm2.and Firm2.yes (Firm2.qi _ _ _)) tx
              have hSt := hide st2
              refine hK.out _ _ st2.1 (fun hHeld => ?_)
              clear hK K st2
              (try simp only [Act.put, List.setIfInBounds_toArray, List.set_cons_zero, List.set_cons_succ])
              exact Hs201.out _ _ ⟨se, Ae, ne, ce, sf, Af, nf, cf, h1, rfl, hSt.out⟩
            refine AllReadyH.cons rfl (fun K hK => ?_) ?_
            · go_simp
              have st2 := Sg.make st.out (Firm2.and Firm2.yes (Firm2.qi _ _ _)) 0 _ rfl (by simp)
              refine hK.out _ _ st2.1 (fun hHeld => ?_)
              (try simp only [Act.put, List.setIfInBounds_toArray, List.set_cons_zero, List.set_cons_succ])
              exact Hs111.out _ _ ⟨se, Ae, ne, ce, W.heap.size, h1, rfl, st2⟩
            exact AllReadyH.nil
          refine wpAnyH_with 5 #[true, true, true, false, false, false, false, false] (fun a W => ∃ (se : Bool) (Ae : Option Addr) (ne ce : Nat), a = ⟨#[zv sa (.slice Aa na ca), zv sb (.slice Ab nb cb), .pointer (some ⟨w.heap.size, 0, none⟩), .pointer (some ⟨w.heap.size + 1, 0, none⟩), .bool false, .pointer (some ⟨g0, 0, none⟩), .pointer (some ⟨g1, 0, none⟩), .pointer (some ⟨g7, 0, none⟩), .int .i64 0, undef, undef, undef, undef, .bool true, .bool false, .pointer (some ⟨w.heap.size, 1, none⟩), .slice Aa na ca, .int .i64 ((na : Nat) : Int), .bool false, .bool false, .pointer (some ⟨w.heap.size + 1, 1, none⟩), .slice Ab nb cb, .int .i64 ((nb : Nat) : Int), .bool false, .bool false, zv sa (.slice Aa na ca), zv sa (.slice Ax nx cx), zv sb (.slice Ab nb cb), zv sb (.slice Ay ny cy), .tuple #[rv s7 (.slice A7 n7 c7) (.slice D7 m7 d7), .int .i64 0], zv sa (.slice Ax nx cx), zv sb (.slice Ay ny cy), .tuple #[rv s7 (.slice A7 n7 c7) (.slice D7 m7 d7), .int .i64 0], rv s7 (.slice A7 n7 c7) (.slice D7 m7 d7), .int .i64 0, zv sa (.slice Aa na ca), zv se (.slice Ae ne ce), zv sb (.slice Ab nb cb), undef, undef, undef, undef, undef, undef, undef, undef, undef, undef, undef, undef, undef, undef, undef, undef, undef, undef, undef, undef, undef, undef, undef, undef, undef, undef, undef, undef, undef, undef, undef, undef, undef, undef, undef, undef, undef, undef, undef, undef, undef, undef, undef, undef, undef, undef, undef, undef, undef, undef, undef, undef, undef, undef, undef, undef], []⟩ ∧ Sg w5.drew.heap.size w5.drew W [qblk, qblk] [none, none] (fun W => (True ∧ Qi W (zv se (.slice Ae ne ce)) ai (5 * 8)))) ?_ (fun Hs100 => ?_)
          · rintro a W ⟨se, Ae, ne, ce, rfl, st0⟩
            have hHeld := st0.1
            have st := hide st0
            clear st0
            refine wpAnyH_ready (rs := [3, 4, 5]) (by kernel_rfl) (by simp) ?_
            refine AllReadyH.cons rfl (fun K hK => ?_) ?_
            · go_simp
              go_at_call 13
              refine Calls.mono (qof_any (L := 8) (HBB.out _ _ _ _ (R.out.2.1.step st.out.1)) (by omega)) ?_
              rintro e wx ⟨v9, rfl, tx, bx⟩
              obtain ⟨sf, xf, Af, nf, cf, rfl, -, -, -⟩ := id tx.parts
              try dsimp only
              have st2 := Sg.call (G := fun W => Qi W (zv sf (.slice Af nf cf)) bi (5 * 8)) st.out bx (Firm2.and Firm2.yes (Firm2.qi _ _ _)) tx
              have hSt := hide st2
              refine hK.out _ _ st2.1 (fun hHeld => ?_)
              clear hK K st2
              (try simp only [Act.put, List.setIfInBounds_toArray, List.set_cons_zero, List.set_cons_succ])
              exact Hs200.out _ _ ⟨se, Ae, ne, ce, sf, Af, nf, cf, rfl, hSt.out⟩
            refine AllReadyH.cons rfl (fun K hK => ?_) ?_
            · go_simp
              have st2 := Sg.make st.out (Firm2.and Firm2.yes (Firm2.qi _ _ _)) 0 _ rfl (by simp)
              refine hK.out _ _ st2.1 (fun hHeld => ?_)
              (try simp only [Act.put, List.setIfInBounds_toArray, List.set_cons_zero, List.set_cons_succ])
              exact Hs110.out _ _ ⟨se, Ae, ne, ce, W.heap.size, rfl, st2⟩
            refine AllReadyH.cons rfl (fun K hK => ?_) ?_
            · go_simp
              have st2 := Sg.make st.out (Firm2.and Firm2.yes (Firm2.qi _ _ _)) 1 _ rfl (by simp)
              refine hK.out _ _ st2.1 (fun hHeld => ?_)
              (try simp only [Act.put, List.setIfInBounds_toArray, List.set_cons_zero, List.set_cons_succ])
              exact Hs101.out _ _ ⟨se, Ae, ne, ce, W.heap.size, rfl, st2⟩
            exact AllReadyH.nil
          refine wpAnyH_with 4 #[true, false, true, false, true, true, false, false] (fun a W => ∃ (h0 : Nat) (h1 : Nat), a = ⟨#[zv sa (.slice Aa na ca), zv sb (.slice Ab nb cb), .pointer (some ⟨w.heap.size, 0, none⟩), .pointer (some ⟨w.heap.size + 1, 0, none⟩), .bool false, .pointer (some ⟨g0, 0, none⟩), .pointer (some ⟨g1, 0, none⟩), .pointer (some ⟨g7, 0, none⟩), .int .i64 0, .pointer (some ⟨h0, 0, none⟩), .pointer (some ⟨h1, 0, none⟩), undef, undef, .bool true, .bool false, .pointer (some ⟨w.heap.size, 1, none⟩), .slice Aa na ca, .int .i64 ((na : Nat) : Int), .bool false, .bool false, .pointer (some ⟨w.heap.size + 1, 1, none⟩), .slice Ab nb cb, .int .i64 ((nb : Nat) : Int), .bool false, .bool false, zv sa (.slice Aa na ca), zv sa (.slice Ax nx cx), zv sb (.slice Ab nb cb), zv sb (.slice Ay ny cy), .tuple #[rv s7 (.slice A7 n7 c7) (.slice D7 m7 d7), .int .i64 0], zv sa (.slice Ax nx cx), zv sb (.slice Ay ny cy), .tuple #[rv s7 (.slice A7 n7 c7) (.slice D7 m7 d7), .int .i64 0], rv s7 (.slice A7 n7 c7) (.slice D7 m7 d7), .int .i64 0, zv sa (.slice Aa na ca), undef, zv sb (.slice Ab nb cb), undef, undef, undef, undef, undef, undef, undef, undef, undef, undef, undef, undef, undef, undef, undef, undef, undef, undef, undef, undef, undef, undef, undef, undef, undef, undef, undef, undef, undef, undef, undef, undef, undef, undef, undef, undef, undef, undef, undef, undef, undef, undef, undef, undef, undef, undef, undef, undef, undef, undef, undef, undef, undef, undef, undef, undef], []⟩ ∧ Sg w5.drew.heap.size w5.drew W [qblk, qblk] [some h0, some h1] (fun W => True)) ?_ (fun Hs011 => ?_)
          · rintro a W ⟨h0, h1, rfl, st0⟩
            have hHeld := st0.1
            have st := hide st0
            clear st0
            refine wpAnyH_ready (rs := [1]) (by kernel_rfl) (by simp) ?_
            refine AllReadyH.cons rfl (fun K hK => ?_) ?_
            · go_simp
              go_at_call 13
              refine Calls.mono (qof_any (L := 8) (HA.out _ _ _ _ (R.out.1.step st.out.1)) (by omega)) ?_
              rintro e wx ⟨v9, rfl, tx, bx⟩
              obtain ⟨se, xe, Ae, ne, ce, rfl, -, -, -⟩ := id tx.parts
              try dsimp only
              have st2 := Sg.call (G := fun W => Qi W (zv se (.slice Ae ne ce)) ai (5 * 8)) st.out bx Firm2.yes tx
              have hSt := hide st2
              refine hK.out _ _ st2.1 (fun hHeld => ?_)
              clear hK K st2
              (try simp only [Act.put, List.setIfInBounds_toArray, List.set_cons_zero, List.set_cons_succ])
              exact Hs111.out _ _ ⟨se, Ae, ne, ce, h0, h1, rfl, hSt.out⟩
            exact AllReadyH.nil
          refine wpAnyH_with 5 #[true, false, true, false, true, false, false, false] (fun a W => ∃ (h0 : Nat), a = ⟨#[zv sa (.slice Aa na ca), zv sb (.slice Ab nb cb), .pointer (some ⟨w.heap.size, 0, none⟩), .pointer (some ⟨w.heap.size + 1, 0, none⟩), .bool false, .pointer (some ⟨g0, 0, none⟩), .pointer (some ⟨g1, 0, none⟩), .pointer (some ⟨g7, 0, none⟩), .int .i64 0, .pointer (some ⟨h0, 0, none⟩), undef, undef, undef, .bool true, .bool false, .pointer (some ⟨w.heap.size, 1, none⟩), .slice Aa na ca, .int .i64 ((na : Nat) : Int), .bool false, .bool false, .pointer (some ⟨w.heap.size + 1, 1, none⟩), .slice Ab nb cb, .int .i64 ((nb : Nat) : Int), .bool false, .bool false, zv sa (.slice Aa na ca), zv sa (.slice Ax nx cx), zv sb (.slice Ab nb cb), zv sb (.slice Ay ny cy), .tuple #[rv s7 (.slice A7 n7 c7) (.slice D7 m7 d7), .int .i64 0], zv sa (.slice Ax nx cx), zv sb (.slice Ay ny cy), .tuple #[rv s7 (.slice A7 n7 c7) (.slice D7 m7 d7), .int .i64 0], rv s7 (.slice A7 n7 c7) (.slice D7 m7 d7), .int .i64 0, zv sa (.slice Aa na ca), undef, zv sb (.slice Ab nb cb), undef, undef, undef, undef, undef, undef, undef, undef, undef, undef, undef, undef, undef, undef, undef, undef, undef, undef, undef, undef, undef, undef, undef, undef, undef, undef, undef, undef, undef, undef, undef, undef, undef, undef, undef, undef, undef, undef, undef, undef, undef, undef, undef, undef, undef, undef, undef, undef, undef, undef, undef, undef, undef, undef, undef, undef], []⟩ ∧ Sg w5.drew.heap.size w5.drew W [qblk, qblk] [some h0, none] (fun W => True)) ?_ (fun Hs010 => ?_)
          · rintro a W ⟨h0, rfl, st0⟩
            have hHeld := st0.1
            have st := hide st0
            clear st0
            refine wpAnyH_ready (rs := [1, 5]) (by kernel_rfl) (by simp) ?_
            refine AllReadyH.cons rfl (fun K hK => ?_) ?_
            · go_simp
              go_at_call 13
              refine Calls.mono (qof_any (L := 8) (HA.out _ _ _ _ (R.out.1.step st.out.1)) (by omega)) ?_
              rintro e wx ⟨v9, rfl, tx, bx⟩
              obtain ⟨se, xe, Ae, ne, ce, rfl, -, -, -⟩ := id tx.parts
              try dsimp only
              have st2 := Sg.call (G := fun W => Qi W (zv se (.slice Ae ne ce)) ai (5 * 8)) st.out bx Firm2.yes tx
              have hSt := hide st2
              refine hK.out _ _ st2.1 (fun hHeld => ?_)
              clear hK K st2
              (try simp only [Act.put, List.setIfInBounds_toArray, List.set_cons_zero, List.set_cons_succ])
              exact Hs110.out _ _ ⟨se, Ae, ne, ce, h0, rfl, hSt.out⟩
            refine AllReadyH.cons rfl (fun K hK => ?_) ?_
            · go_simp
              have st2 := Sg.make st.out Firm2.yes 1 _ rfl (by simp)
              refine hK.out _ _ st2.1 (fun hHeld => ?_)
              (try simp only [Act.put, List.setIfInBounds_toArray, List.set_cons_zero, List.set_cons_succ])
              exact Hs011.out _ _ ⟨h0, W.heap.size, rfl, st2⟩
            exact AllReadyH.nil
          refine wpAnyH_with 5 #[true, false, true, false, false, true, false, false] (fun a W => ∃ (h1 : Nat), a = ⟨#[zv sa (.slice Aa na ca), zv sb (.slice Ab nb cb), .pointer (some ⟨w.heap.size, 0, none⟩), .pointer (some ⟨w.heap.size + 1, 0, none⟩), .bool false, .pointer (some ⟨g0, 0, none⟩), .pointer (some ⟨g1, 0, none⟩), .pointer (some ⟨g7, 0, none⟩), .int .i64 0, undef, .pointer (some ⟨h1, 0, none⟩), undef, undef, .bool true, .bool false, .pointer (some ⟨w.heap.size, 1, none⟩), .slice Aa na ca, .int .i64 ((na : Nat) : Int), .bool false, .bool false, .pointer (some ⟨w.heap.size + 1, 1, none⟩), .slice Ab nb cb, .int .i64 ((nb : Nat) : Int), .bool false, .bool false, zv sa (.slice Aa na ca), zv sa (.slice Ax nx cx), zv sb (.slice Ab nb cb), zv sb (.slice Ay ny cy), .tuple #[rv s7 (.slice A7 n7 c7) (.slice D7 m7 d7), .int .i64 0], zv sa (.slice Ax nx cx), zv sb (.slice Ay ny cy), .tuple #[rv s7 (.slice A7 n7 c7) (.slice D7 m7 d7), .int .i64 0], rv s7 (.slice A7 n7 c7) (.slice D7 m7 d7), .int .i64 0, zv sa (.slice Aa na ca), undef, zv sb (.slice Ab nb cb), undef, undef, undef, undef, undef, undef, undef, undef, undef, undef, undef, undef, undef, undef, undef, undef, undef, undef, undef, undef, undef, undef, undef, undef, undef, undef, undef, undef, undef, undef, undef, undef, undef, undef, undef, undef, undef, undef, undef, undef, undef, undef, undef, undef, undef, undef, undef, undef, undef, undef, undef, undef, undef, undef, undef, undef], []⟩ ∧ Sg w5.drew.heap.size w5.drew W [qblk, qblk] [none, some h1] (fun W => True)) ?_ (fun Hs001 => ?_)
          · rintro a W ⟨h1, rfl, st0⟩
            have hHeld := st0.1
            have st := hide st0
            clear st0
            refine wpAnyH_ready (rs := [1, 4]) (by kernel_rfl) (by simp) ?_
            refine AllReadyH.cons rfl (fun K hK => ?_) ?_
            · go_simp
              go_at_call 13
              refine Calls.mono (qof_any (L := 8) (HA.out _ _ _ _ (R.out.1.step st.out.1)) (by omega)) ?_
              rintro e wx ⟨v9, rfl, tx, bx⟩
              obtain ⟨se, xe, Ae, ne, ce, rfl, -, -, -⟩ := id tx.parts
              try dsimp only
              have st2 := Sg.call (G := fun W => Qi W (zv se (.slice Ae ne ce)) ai (5 * 8)) st.out bx Firm2.yes tx
              have hSt := hide st2
              refine hK.out _ _ st2.1 (fun hHeld => ?_)
              clear hK K st2
              (try simp only [Act.put, List.setIfInBounds_toArray, List.set_cons_zero, List.set_cons_succ])
              exact Hs101.out _ _ ⟨se, Ae, ne, ce, h1, rfl, hSt.out⟩
            refine AllReadyH.cons rfl (fun K hK => ?_) ?_
            · go_simp
              have st2 := Sg.make st.out Firm2.yes 0 _ rfl (by simp)
              refine hK.out _ _ st2.1 (fun hHeld => ?_)
              (try simp only [Act.put, List.setIfInBounds_toArray, List.set_cons_zero, List.set_cons_succ])
              exact Hs011.out _ _ ⟨W.heap.size, h1, rfl, st2⟩
            exact AllReadyH.nil
          refine wpAnyH_take (i := 0) (v := ?_) rfl (by kernel_rfl) (by kernel_rfl) (by kernel_rfl) (fun _ _ _ h => h) (Or.inl ⟨?_, ?_⟩) (by assumption) ?_
          rotate_left
          · rfl
          · (intro w hSw; have e0 := cell_keep P.out.1.1 hSw; have e1 := cell_keep P.out.1.2 hSw; go_simp; try with_reducible rfl)
          (try simp only [Act.put, List.setIfInBounds_toArray, List.set_cons_zero, List.set_cons_succ])
          refine wpAnyH_take (i := 2) (v := ?_) rfl (by kernel_rfl) (by kernel_rfl) (by kernel_rfl) (fun _ _ _ h => h) (Or.inl ⟨?_, ?_⟩) (by assumption) ?_
          rotate_left
          · rfl
          · (intro w hSw; have e0 := cell_keep P.out.2.1.1 hSw; have e1 := cell_keep P.out.2.1.2 hSw; go_simp; try with_reducible rfl)
          (try simp only [Act.put, List.setIfInBounds_toArray, List.set_cons_zero, List.set_cons_succ])
          refine wpAnyH_with 6 #[true, false, true, false, false, false, false, false] (fun a W => a = ⟨#[zv sa (.slice Aa na ca), zv sb (.slice Ab nb cb), .pointer (some ⟨w.heap.size, 0, none⟩), .pointer (some ⟨w.heap.size + 1, 0, none⟩), .bool false, .pointer (some ⟨g0, 0, none⟩), .pointer (some ⟨g1, 0, none⟩), .pointer (some ⟨g7, 0, none⟩), .int .i64 0, undef, undef, undef, undef, .bool true, .bool false, .pointer (some ⟨w.heap.size, 1, none⟩), .slice Aa na ca, .int .i64 ((na : Nat) : Int), .bool false, .bool false, .pointer (some ⟨w.heap.size + 1, 1, none⟩), .slice Ab nb cb, .int .i64 ((nb : Nat) : Int), .bool false, .bool false, zv sa (.slice Aa na ca), zv sa (.slice Ax nx cx), zv sb (.slice Ab nb cb), zv sb (.slice Ay ny cy), .tuple #[rv s7 (.slice A7 n7 c7) (.slice D7 m7 d7), .int .i64 0], zv sa (.slice Ax nx cx), zv sb (.slice Ay ny cy), .tuple #[rv s7 (.slice A7 n7 c7) (.slice D7 m7 d7), .int .i64 0], rv s7 (.slice A7 n7 c7) (.slice D7 m7 d7), .int .i64 0, zv sa (.slice Aa na ca), undef, zv sb (.slice Ab nb cb), undef, undef, undef, undef, undef, undef, undef, undef, undef, undef, undef, undef, undef, undef, undef, undef, undef, undef, undef, undef, undef, undef, undef, undef, undef, undef, undef, undef, undef, undef, undef, undef, undef, undef, undef, undef, undef, undef, undef, undef, undef, undef, undef, undef, undef, undef, undef, undef, undef, undef, undef, undef, undef, undef, undef, undef], []⟩ ∧ Sg w5.drew.heap.size w5.drew W [qblk, qblk] [none, none] (fun W => True)) ?_ (fun Hs => Hs.out _ _ ⟨rfl, Sg.start _ _ 2⟩)
          rintro a W ⟨rfl, st0⟩
          have hHeld := st0.1
          have st := hide st0
          clear st0
          refine wpAnyH_ready (rs := [1, 4, 5]) (by kernel_rfl) (by simp) ?_
          refine AllReadyH.cons rfl (fun K hK => ?_) ?_
          · go_simp
            go_at_call 13
            refine Calls.mono (qof_any (L := 8) (HA.out _ _ _ _ (R.out.1.step st.out.1)) (by omega)) ?_
            rintro e wx ⟨v9, rfl, tx, bx⟩
            obtain ⟨se, xe, Ae, ne, ce, rfl, -, -, -⟩ := id tx.parts
            try dsimp only
            have st2 := Sg.call (G := fun W => Qi W (zv se (.slice Ae ne ce)) ai (5 * 8)) st.out bx Firm2.yes tx
            have hSt := hide st2
            refine hK.out _ _ st2.1 (fun hHeld => ?_)
            clear hK K st2
            (try simp only [Act.put, List.setIfInBounds_toArray, List.set_cons_zero, List.set_cons_succ])
            exact Hs100.out _ _ ⟨se, Ae, ne, ce, rfl, hSt.out⟩
          refine AllReadyH.cons rfl (fun K hK => ?_) ?_
          · go_simp
            have st2 := Sg.make st.out Firm2.yes 0 _ rfl (by simp)
            refine hK.out _ _ st2.1 (fun hHeld => ?_)
            (try simp only [Act.put, List.setIfInBounds_toArray, List.set_cons_zero, List.set_cons_succ])
            exact Hs010.out _ _ ⟨W.heap.size, rfl, st2⟩
          refine AllReadyH.cons rfl (fun K hK => ?_) ?_
          · go_simp
            have st2 := Sg.make st.out Firm2.yes 1 _ rfl (by simp)
            refine hK.out _ _ st2.1 (fun hHeld => ?_)
            (try simp only [Act.put, List.setIfInBounds_toArray, List.set_cons_zero, List.set_cons_succ])
            exact Hs001.out _ _ ⟨W.heap.size, rfl, st2⟩
          exact AllReadyH.nil
        refine wpAnyH_with 3 #[true, true, true, true, true, false, false, false] (fun a W => ∃ (Ax : Option Addr) (nx cx : Nat) (Ay : Option Addr) (ny cy : Nat) (g0 : Nat), a = ⟨#[zv sa (.slice Aa na ca), zv sb (.slice Ab nb cb), .pointer (some ⟨w.heap.size, 0, none⟩), .pointer (some ⟨w.heap.size + 1, 0, none⟩), .bool false, .pointer (some ⟨g0, 0, none⟩), undef, undef, undef, undef, undef, undef, undef, .bool true, .bool false, .pointer (some ⟨w.heap.size, 1, none⟩), .slice Aa na ca, .int .i64 ((na : Nat) : Int), .bool false, .bool false, .pointer (some ⟨w.heap.size + 1, 1, none⟩), .slice Ab nb cb, .int .i64 ((nb : Nat) : Int), .bool false, .bool false, zv sa (.slice Aa na ca), zv sa (.slice Ax nx cx), zv sb (.slice Ab nb cb), zv sb (.slice Ay ny cy), undef, undef, undef, undef, undef, undef, undef, undef, undef, undef, undef, undef, undef, undef, undef, undef, undef, undef, undef, undef, undef, undef, undef, undef, undef, undef, undef, undef, undef, undef, undef, undef, undef, undef, undef, undef, undef, undef, undef, undef, undef, undef, undef, undef, undef, undef, undef, undef, undef, undef, undef, undef, undef, undef, undef, undef, undef, undef, undef, undef, undef, undef, undef, undef, undef], []⟩ ∧ Sg w1.drew.heap.size w1.drew W [zblk, zblk] [some g0, none] (fun W => ((True ∧ Lw W (.slice Ax nx cx) xsa 8) ∧ Lw W (.slice Ay ny cy) xsb 8))) ?_ (fun Hs210 => ?_)
        · rintro a W ⟨Ax, nx, cx, Ay, ny, cy, g0, rfl, st0⟩
          have hHeld := st0.1
          have st := hide st0
          clear st0
          refine wpAnyH_ready (rs := [5]) (by kernel_rfl) (by simp) ?_
          refine AllReadyH.cons rfl (fun K hK => ?_) ?_
          · go_simp
            have st2 := Sg.make st.out (Firm2.and (Firm2.and Firm2.yes (Firm2.lw _ _ _)) (Firm2.lw _ _ _)) 1 _ rfl (by simp)
            refine hK.out _ _ st2.1 (fun hHeld => ?_)
            (try simp only [Act.put, List.setIfInBounds_toArray, List.set_cons_zero, List.set_cons_succ])
            exact Hs211.out _ _ ⟨Ax, nx, cx, Ay, ny, cy, g0, W.heap.size, rfl, st2⟩
          exact AllReadyH.nil
        refine wpAnyH_with 3 #[true, true, true, true, false, true, false, false] (fun a W => ∃ (Ax : Option Addr) (nx cx : Nat) (Ay : Option Addr) (ny cy : Nat) (g1 : Nat), a = ⟨#[zv sa (.slice Aa na ca), zv sb (.slice Ab nb cb), .pointer (some ⟨w.heap.size, 0, none⟩), .pointer (some ⟨w.heap.size + 1, 0, none⟩), .bool false, undef, .pointer (some ⟨g1, 0, none⟩), undef, undef, undef, undef, undef, undef, .bool true, .bool false, .pointer (some ⟨w.heap.size, 1, none⟩), .slice Aa na ca, .int .i64 ((na : Nat) : Int), .bool false, .bool false, .pointer (some ⟨w.heap.size + 1, 1, none⟩), .slice Ab nb cb, .int .i64 ((nb : Nat) : Int), .bool false, .bool false, zv sa (.slice Aa na ca), zv sa (.slice Ax nx cx), zv sb (.slice Ab nb cb), zv sb (.slice Ay ny cy), undef, undef, undef, undef, undef, undef, undef, undef, undef, undef, undef, undef, undef, undef, undef, undef, undef, undef, undef, undef, undef, undef, undef, undef, undef, undef, undef, undef, undef, undef, undef, undef, undef, undef, undef, undef, undef, undef, undef, undef, undef, undef, undef, undef, undef, undef, undef, undef, undef, undef, undef, undef, undef, undef, undef, undef, undef, undef, undef, undef, undef, undef, undef, undef, undef], []⟩ ∧ Sg w1.drew.heap.size w1.drew W [zblk, zblk] [none, some g1] (fun W => ((True ∧ Lw W (.slice Ax nx cx) xsa 8) ∧ Lw W (.slice Ay ny cy) xsb 8))) ?_ (fun Hs201 => ?_)
        · rintro a W ⟨Ax, nx, cx, Ay, ny, cy, g1, rfl, st0⟩
          have hHeld := st0.1
          have st := hide st0
          clear st0
          refine wpAnyH_ready (rs := [4]) (by kernel_rfl) (by simp) ?_
          refine AllReadyH.cons rfl (fun K hK => ?_) ?_
          · go_simp
            have st2 := Sg.make st.out (Firm2.and (Firm2.and Firm2.yes (Firm2.lw _ _ _)) (Firm2.lw _ _ _)) 0 _ rfl (by simp)
            refine hK.out _ _ st2.1 (fun hHeld => ?_)
            (try simp only [Act.put, List.setIfInBounds_toArray, List.set_cons_zero, List.set_cons_succ])
            exact Hs211.out _ _ ⟨Ax, nx, cx, Ay, ny, cy, W.heap.size, g1, rfl, st2⟩
          exact AllReadyH.nil
        refine wpAnyH_with 4 #[true, true, true, true, false, false, false, false] (fun a W => ∃ (Ax : Option Addr) (nx cx : Nat) (Ay : Option Addr) (ny cy : Nat), a = ⟨#[zv sa (.slice Aa na ca), zv sb (.slice Ab nb cb), .pointer (some ⟨w.heap.size, 0, none⟩), .pointer (some ⟨w.heap.size + 1, 0, none⟩), .bool false, undef, undef, undef, undef, undef, undef, undef, undef, .bool true, .bool false, .pointer (some ⟨w.heap.size, 1, none⟩), .slice Aa na ca, .int .i64 ((na : Nat) : Int), .bool false, .bool false, .pointer (some ⟨w.heap.size + 1, 1, none⟩), .slice Ab nb cb, .int .i64 ((nb : Nat) : Int), .bool false, .bool false, zv sa (.slice Aa na ca), zv sa (.slice Ax nx cx), zv sb (.slice Ab nb cb), zv sb (.slice Ay ny cy), undef, undef, undef, undef, undef, undef, undef, undef, undef, undef, undef, undef, undef, undef, undef, undef, undef, undef, undef, undef, undef, undef, undef, undef, undef, undef, undef, undef, undef, undef, undef, undef, undef, undef, undef, undef, undef, undef, undef, undef, undef, undef, undef, undef, undef, undef, undef, undef, undef, undef, undef, undef, undef, undef, undef, undef, undef, undef, undef, undef, undef, undef, undef, undef, undef], []⟩ ∧ Sg w1.drew.heap.size w1.drew W [zblk, zblk] [none, none] (fun W => ((True ∧ Lw W (.slice Ax nx cx) xsa 8) ∧ Lw W (.slice Ay ny cy) xsb 8))) ?_ (fun Hs200 => ?_)
        · rintro a W ⟨Ax, nx, cx, Ay, ny, cy, rfl, st0⟩
          have hHeld := st0.1
          have st := hide st0
          clear st0
          refine wpAnyH_ready (rs := [4, 5]) (by kernel_rfl) (by simp) ?_
          refine AllReadyH.cons rfl (fun K hK => ?_) ?_
          · go_simp
            have st2 := Sg.make st.out (Firm2.and (Firm2.and Firm2.yes (Firm2.lw _ _ _)) (Firm2.lw _ _ _)) 0 _ rfl (by simp)
            refine hK.out _ _ st2.1 (fun hHeld => ?_)
            (try simp only [Act.put, List.setIfInBounds_toArray, List.set_cons_zero, List.set_cons_succ])
            exact Hs210.out _ _ ⟨Ax, nx, cx, Ay, ny, cy, W.heap.size, rfl, st2⟩
          refine AllReadyH.cons rfl (fun K hK => ?_) ?_
          · go_simp
            have st2 := Sg.make st.out (Firm2.and (Firm2.and Firm2.yes (Firm2.lw _ _ _)) (Firm2.lw _ _ _)) 1 _ rfl (by simp)
            refine hK.out _ _ st2.1 (fun hHeld => ?_)
            (try simp only [Act.put, List.setIfInBounds_toArray, List.set_cons_zero, List.set_cons_succ])
            exact Hs201.out _ _ ⟨Ax, nx, cx, Ay, ny, cy, W.heap.size, rfl, st2⟩
          exact AllReadyH.nil
        refine wpAnyH_with 3 #[true, true, true, false, true, true, false, false] (fun a W => ∃ (Ax : Option Addr) (nx cx : Nat) (g0 : Nat) (g1 : Nat), a = ⟨#[zv sa (.slice Aa na ca), zv sb (.slice Ab nb cb), .pointer (some ⟨w.heap.size, 0, none⟩), .pointer (some ⟨w.heap.size + 1, 0, none⟩), .bool false, .pointer (some ⟨g0, 0, none⟩), .pointer (some ⟨g1, 0, none⟩), undef, undef, undef, undef, undef, undef, .bool true, .bool false, .pointer (some ⟨w.heap.size, 1, none⟩), .slice Aa na ca, .int .i64 ((na : Nat) : Int), .bool false, .bool false, .pointer (some ⟨w.heap.size + 1, 1, none⟩), .slice Ab nb cb, .int .i64 ((nb : Nat) : Int), .bool false, .bool false, zv sa (.slice Aa na ca), zv sa (.slice Ax nx cx), zv sb (.slice Ab nb cb), undef, undef, undef, undef, undef, undef, undef, undef, undef, undef, undef, undef, undef, undef, undef, undef, undef, undef, undef, undef, undef, undef, undef, undef, undef, undef, undef, undef, undef, undef, undef, undef, undef, undef, undef, undef, undef, undef, undef, undef, undef, undef, undef, undef, undef, undef, undef, undef, undef, undef, undef, undef, undef, undef, undef, undef, undef, undef, undef, undef, undef, undef, undef, undef, undef, undef], []⟩ ∧ Sg w1.drew.heap.size w1.drew W [zblk, zblk] [some g0, some g1] (fun W => (True ∧ Lw W (.slice Ax nx cx) xsa 8))) ?_ (fun Hs111 => ?_)
        · rintro a W ⟨Ax, nx, cx, g0, g1, rfl, st0⟩
          have hHeld := st0.1
          have st := hide st0
          clear st0
          refine wpAnyH_ready (rs := [3]) (by kernel_rfl) (by simp) ?_
          refine AllReadyH.cons rfl (fun K hK => ?_) ?_
          · go_simp
            go_at_call 11
            refine Calls.mono (zcopy_l (L := 8) (R.out.2.step st.out.1) (by omega)) ?_
            rintro e wx ⟨v9, rfl, tx, bx⟩
            obtain ⟨Ay, ny, cy, rfl⟩ := tx.nw.slice
            try dsimp only
            have st2 := Sg.call (G := fun W => Lw W (.slice Ay ny cy) xsb 8) st.out bx (Firm2.and Firm2.yes (Firm2.lw _ _ _)) tx
            have hSt := hide st2
            refine hK.out _ _ st2.1 (fun hHeld => ?_)
            clear hK K st2
            (try simp only [Act.put, List.setIfInBounds_toArray, List.set_cons_zero, List.set_cons_succ])
            exact Hs211.out _ _ ⟨Ax, nx, cx, Ay, ny, cy, g0, g1, rfl, hSt.out⟩
          exact AllReadyH.nil
        refine wpAnyH_with 4 #[true, true, true, false, true, false, false, false] (fun a W => ∃ (Ax : Option Addr) (nx cx : Nat) (g0 : Nat), a = ⟨#[zv sa (.slice Aa na ca), zv sb (.slice Ab nb cb), .pointer (some ⟨w.heap.size, 0, none⟩), .pointer (some ⟨w.heap.size + 1, 0, none⟩), .bool false, .pointer (some ⟨g0, 0, none⟩), undef, undef, undef, undef, undef, undef, undef, .bool true, .bool false, .pointer (some ⟨w.heap.size, 1, none⟩), .slice Aa na ca, .int .i64 ((na : Nat) : Int), .bool false, .bool false, .pointer (some ⟨w.heap.size + 1, 1, none⟩), .slice Ab nb cb, .int .i64 ((nb : Nat) : Int), .bool false, .bool false, zv sa (.slice Aa na ca), zv sa (.slice Ax nx cx), zv sb (.slice Ab nb cb), undef, undef, undef, undef, undef, undef, undef, undef, undef, undef, undef, undef, undef, undef, undef, undef, undef, undef, undef, undef, undef, undef, undef, undef, undef, undef, undef, undef, undef, undef, undef, undef, undef, undef, undef, undef, undef, undef, undef, undef, undef, undef, undef, undef, undef, undef, undef, undef, undef, undef, undef, undef, undef, undef, undef, undef, undef, undef, undef, undef, undef, undef, undef, undef, undef, undef], []⟩ ∧ Sg w1.drew.heap.size w1.drew W [zblk, zblk] [some g0, none] (fun W => (True ∧ Lw W (.slice Ax nx cx) xsa 8))) ?_ (fun Hs110 => ?_)
        · rintro a W ⟨Ax, nx, cx, g0, rfl, st0⟩
          have hHeld := st0.1
          have st := hide st0
          clear st0
          refine wpAnyH_ready (rs := [3, 5]) (by kernel_rfl) (by simp) ?_
          refine AllReadyH.cons rfl (fun K hK => ?_) ?_
          · go_simp
            go_at_call 11
            refine Calls.mono (zcopy_l (L := 8) (R.out.2.step st.out.1) (by omega)) ?_
            rintro e wx ⟨v9, rfl, tx, bx⟩
            obtain ⟨Ay, ny, cy, rfl⟩ := tx.nw.slice
            try dsimp only
            have st2 := Sg.call (G := fun W => Lw W (.slice Ay ny cy) xsb 8) st.out bx (Firm2.and Firm2.yes (Firm2.lw _ _ _)) tx
            have hSt := hide st2
            refine hK.out _ _ st2.1 (fun hHeld => ?_)
            clear hK K st2
            (try simp only [Act.put, List.setIfInBounds_toArray, List.set_cons_zero, List.set_cons_succ])
            exact Hs210.out _ _ ⟨Ax, nx, cx, Ay, ny, cy, g0, rfl, hSt.out⟩
          refine AllReadyH.cons rfl (fun K hK => ?_) ?_
          · go_simp
            have st2 := Sg.make st.out (Firm2.and Firm2.yes (Firm2.lw _ _ _)) 1 _ rfl (by simp)
            refine hK.out _ _ st2.1 (fun hHeld => ?_)
            (try simp only [Act.put, List.setIfInBounds_toArray, List.set_cons_zero, List.set_cons_succ])
            exact Hs111.out _ _ ⟨Ax, nx, cx, g0, W.heap.size, rfl, st2⟩
          exact AllReadyH.nil
        refine wpAnyH_with 4 #[true, true, true, false, false, true, false, false] (fun a W => ∃ (Ax : Option Addr) (nx cx : Nat) (g1 : Nat), a = ⟨#[zv sa (.slice Aa na ca), zv sb (.slice Ab nb cb), .pointer (some ⟨w.heap.size, 0, none⟩), .pointer (some ⟨w.heap.size + 1, 0, none⟩), .bool false, undef, .pointer (some ⟨g1, 0, none⟩), undef, undef, undef, undef, undef, undef, .bool true, .bool false, .pointer (some ⟨w.heap.size, 1, none⟩), .slice Aa na ca, .int .i64 ((na : Nat) : Int), .bool false, .bool false, .pointer (some ⟨w.heap.size + 1, 1, none⟩), .slice Ab nb cb, .int .i64 ((nb : Nat) : Int), .bool false, .bool false, zv sa (.slice Aa na ca), zv sa (.slice Ax nx cx), zv sb (.slice Ab nb cb), undef, undef, undef, undef, undef, undef, undef, undef, undef, undef, undef, undef, undef, undef, undef, undef, undef, undef, undef, undef, undef, undef, undef, undef, undef, undef, undef, undef, undef, undef, undef, undef, undef, undef, undef, undef, undef, undef, undef, undef, undef, undef, undef, undef, undef, undef, undef, undef, undef, undef, undef, undef, undef, undef, undef, undef, undef, undef, undef, undef, undef, undef, undef, undef, undef, undef], []⟩ ∧ Sg w1.drew.heap.size w1.drew W [zblk, zblk] [none, some g1] (fun W => (True ∧ Lw W (.slice Ax nx cx) xsa 8))) ?_ (fun Hs101 => ?_)
        · rintro a W ⟨Ax, nx, cx, g1, rfl, st0⟩
          have hHeld := st0.1
          have st := hide st0
          clear st0
          refine wpAnyH_ready (rs := [3, 4]) (by kernel_rfl) (by simp) ?_
          refine AllReadyH.cons rfl (fun K hK => ?_) ?_
          · go_simp
            go_at_call 11
            refine Calls.mono (zcopy_l (L := 8) (R.out.2.step st.out.1) (by omega)) ?_
            rintro e wx ⟨v9, rfl, tx, bx⟩
            obtain ⟨Ay, ny, cy, rfl⟩ := tx.nw.slice
            try dsimp only
            have st2 := Sg.call (G := fun W => Lw W (.slice Ay ny cy) xsb 8) st.out bx (Firm2.and Firm2.yes (Firm2.lw _ _ _)) tx
            have hSt := hide st2
            refine hK.out _ _ st2.1 (fun hHeld => ?_)
            clear hK K st2
            (try simp only [Act.put, List.setIfInBounds_toArray, List.set_cons_zero, List.set_cons_succ])
            exact Hs201.out _ _ ⟨Ax, nx, cx, Ay, ny, cy, g1, rfl, hSt.out⟩
          refine AllReadyH.cons rfl (fun K hK => ?_) ?_
          · go_simp
            have st2 := Sg.make st.out (Firm2.and Firm2.yes (Firm2.lw _ _ _)) 0 _ rfl (by simp)
            refine hK.out _ _ st2.1 (fun hHeld => ?_)
            (try simp only [Act.put, List.setIfInBounds_toArray, List.set_cons_zero, List.set_cons_succ])
            exact Hs111.out _ _ ⟨Ax, nx, cx, W.heap.size, g1, rfl, st2⟩
          exact AllReadyH.nil
        refine wpAnyH_with 5 #[true, true, true, false, false, false, false, false] (fun a W => ∃ (Ax : Option Addr) (nx cx : Nat), a = ⟨#[zv sa (.slice Aa na ca), zv sb (.slice Ab nb cb), .pointer (some ⟨w.heap.size, 0, none⟩), .pointer (some ⟨w.heap.size + 1, 0, none⟩), .bool false, undef, undef, undef, undef, undef, undef, undef, undef, .bool true, .bool false, .pointer (some ⟨w.heap.size, 1, none⟩), .slice Aa na ca, .int .i64 ((na : Nat) : Int), .bool false, .bool false, .pointer (some ⟨w.heap.size + 1, 1, none⟩), .slice Ab nb cb, .int .i64 ((nb : Nat) : Int), .bool false, .bool false, zv sa (.slice Aa na ca), zv sa (.slice Ax nx cx), zv sb (.slice Ab nb cb), undef, undef, undef, undef, undef, undef, undef, undef, undef, undef, undef, undef, undef, undef, undef, undef, undef, undef, undef, undef, undef, undef, undef, undef, undef, undef, undef, undef, undef, undef, undef, undef, undef, undef, undef, undef, undef, undef, undef, undef, undef, undef, undef, undef, undef, undef, undef, undef, undef, undef, undef, undef, undef, undef, undef, undef, undef, undef, undef, undef, undef, undef, undef, undef, undef, undef], []⟩ ∧ Sg w1.drew.heap.size w1.drew W [zblk, zblk] [none, none] (fun W => (True ∧ Lw W (.slice Ax nx cx) xsa 8))) ?_ (fun Hs100 => ?_)
        · rintro a W ⟨Ax, nx, cx, rfl, st0⟩
          have hHeld := st0.1
          have st := hide st0
          clear st0
          refine wpAnyH_ready (rs := [3, 4, 5]) (by kernel_rfl) (by simp) ?_
          refine AllReadyH.cons rfl (fun K hK => ?_) ?_
          · go_simp
            go_at_call 11
            refine Calls.mono (zcopy_l (L := 8) (R.out.2.step st.out.1) (by omega)) ?_
            rintro e wx ⟨v9, rfl, tx, bx⟩
            obtain ⟨Ay, ny, cy, rfl⟩ := tx.nw.slice
            try dsimp only
            have st2 := Sg.call (G := fun W => Lw W (.slice Ay ny cy) xsb 8) st.out bx (Firm2.and Firm2.yes (Firm2.lw _ _ _)) tx
            have hSt := hide st2
            refine hK.out _ _ st2.1 (fun hHeld => ?_)
            clear hK K st2
            (try simp only [Act.put, List.setIfInBounds_toArray, List.set_cons_zero, List.set_cons_succ])
            exact Hs200.out _ _ ⟨Ax, nx, cx, Ay, ny, cy, rfl, hSt.out⟩
          refine AllReadyH.cons rfl (fun K hK => ?_) ?_
          · go_simp
            have st2 := Sg.make st.out (Firm2.and Firm2.yes (Firm2.lw _ _ _)) 0 _ rfl (by simp)
            refine hK.out _ _ st2.1 (fun hHeld => ?_)
            (try simp only [Act.put, List.setIfInBounds_toArray, List.set_cons_zero, List.set_cons_succ])
            exact Hs110.out _ _ ⟨Ax, nx, cx, W.heap.size, rfl, st2⟩
          refine AllReadyH.cons rfl (fun K hK => ?_) ?_
          · go_simp
            have st2 := Sg.make st.out (Firm2.and Firm2.yes (Firm2.lw _ _ _)) 1 _ rfl (by simp)
            refine hK.out _ _ st2.1 (fun hHeld => ?_)
            (try simp only [Act.put, List.setIfInBounds_toArray, List.set_cons_zero, List.set_cons_succ])
            exact Hs101.out _ _ ⟨Ax, nx, cx, W.heap.size, rfl, st2⟩
          exact AllReadyH.nil
        refine wpAnyH_with 4 #[true, false, true, false, true, true, false, false] (fun a W => ∃ (g0 : Nat) (g1 : Nat), a = ⟨#[zv sa (.slice Aa na ca), zv sb (.slice Ab nb cb), .pointer (some ⟨w.heap.size, 0, none⟩), .pointer (some ⟨w.heap.size + 1, 0, none⟩), .bool false, .pointer (some ⟨g0, 0, none⟩), .pointer (some ⟨g1, 0, none⟩), undef, undef, undef, undef, undef, undef, .bool true, .bool false, .pointer (some ⟨w.heap.size, 1, none⟩), .slice Aa na ca, .int .i64 ((na : Nat) : Int), .bool false, .bool false, .pointer (some ⟨w.heap.size + 1, 1, none⟩), .slice Ab nb cb, .int .i64 ((nb : Nat) : Int), .bool false, .bool false, zv sa (.slice Aa na ca), undef, zv sb (.slice Ab nb cb), undef, undef, undef, undef, undef, undef, undef, undef, undef, undef, undef, undef, undef, undef, undef, undef, undef, undef, undef, undef, undef, undef, undef, undef, undef, undef, undef, undef, undef, undef, undef, undef, undef, undef, undef, undef, undef, undef, undef, undef, undef, undef, undef, undef, undef, undef, undef, undef, undef, undef, undef, undef, undef, undef, undef, undef, undef, undef, undef, undef, undef, undef, undef, undef, undef, undef], []⟩ ∧ Sg w1.drew.heap.size w1.drew W [zblk, zblk] [some g0, some g1] (fun W => True)) ?_ (fun Hs011 => ?_)
        · rintro a W ⟨g0, g1, rfl, st0⟩
          have hHeld := st0.1
          have st := hide st0
          clear st0
          refine wpAnyH_ready (rs := [1]) (by kernel_rfl) (by simp) ?_
          refine AllReadyH.cons rfl (fun K hK => ?_) ?_
          · go_simp
            go_at_call 11
            refine Calls.mono (zcopy_l (L := 8) (R.out.1.step st.out.1) (by omega)) ?_
            rintro e wx ⟨v9, rfl, tx, bx⟩
            obtain ⟨Ax, nx, cx, rfl⟩ := tx.nw.slice
            try dsimp only
            have st2 := Sg.call (G := fun W => Lw W (.slice Ax nx cx) xsa 8) st.out bx Firm2.yes tx
            have hSt := hide st2
            refine hK.out _ _ st2.1 (fun hHeld => ?_)
            clear hK K st2
            (try simp only [Act.put, List.setIfInBounds_toArray, List.set_cons_zero, List.set_cons_succ])
            exact Hs111.out _ _ ⟨Ax, nx, cx, g0, g1, rfl, hSt.out⟩
          exact AllReadyH.nil
        refine wpAnyH_with 5 #[true, false, true, false, true, false, false, false] (fun a W => ∃ (g0 : Nat), a = ⟨#[zv sa (.slice Aa na ca), zv sb (.slice Ab nb cb), .pointer (some ⟨w.heap.size, 0, none⟩), .pointer (some ⟨w.heap.size + 1, 0, none⟩), .bool false, .pointer (some ⟨g0, 0, none⟩), undef, undef, undef, undef, undef, undef, undef, .bool true, .bool false, .pointer (some ⟨w.heap.size, 1, none⟩), .slice Aa na ca, .int .i64 ((na : Nat) : Int), .bool false, .bool false, .pointer (some ⟨w.heap.size + 1, 1, none⟩), .slice Ab nb cb, .int .i64 ((nb : Nat) : Int), .bool false, .bool false, zv sa (.slice Aa na ca), undef, zv sb (.slice Ab nb cb), undef, undef, undef, undef, undef, undef, undef, undef, undef, undef, undef, undef, undef, undef, undef, undef, undef, undef, undef, undef, undef, undef, undef, undef, undef, undef, undef, undef, undef, undef, undef, undef, undef, undef, undef, undef, undef, undef, undef, undef, undef, undef, undef, undef, undef, undef, undef, undef, undef, undef, undef, undef, undef, undef, undef, undef, undef, undef, undef, undef, undef, undef, undef, undef, undef, undef], []⟩ ∧ Sg w1.drew.heap.size w1.drew W [zblk, zblk] [some g0, none] (fun W => True)) ?_ (fun Hs010 => ?_)
        · rintro a W ⟨g0, rfl, st0⟩
          have hHeld := st0.1
          have st := hide st0
          clear st0
          refine wpAnyH_ready (rs := [1, 5]) (by kernel_rfl) (by simp) ?_
          refine AllReadyH.cons rfl (fun K hK => ?_) ?_
          · go_simp
            go_at_call 11
            refine Calls.mono (zcopy_l (L := 8) (R.out.1.step st.out.1) (by omega)) ?_
            rintro e wx ⟨v9, rfl, tx, bx⟩
            obtain ⟨Ax, nx, cx, rfl⟩ := tx.nw.slice
            try dsimp only
            have st2 := Sg.call (G := fun W => Lw W (.slice Ax nx cx) xsa 8) st.out bx Firm2.yes tx
            have hSt := hide st2
            refine hK.out _ _ st2.1 (fun hHeld => ?_)
            clear hK K st2
            (try simp only [Act.put, List.setIfInBounds_toArray, List.set_cons_zero, List.set_cons_succ])
            exact Hs110.out _ _ ⟨Ax, nx, cx, g0, rfl, hSt.out⟩
          refine AllReadyH.cons rfl (fun K hK => ?_) ?_
          · go_simp
            have st2 := Sg.make st.out Firm2.yes 1 _ rfl (by simp)
            refine hK.out _ _ st2.1 (fun hHeld => ?_)
            (try simp only [Act.put, List.setIfInBounds_toArray, List.set_cons_zero, List.set_cons_succ])
            exact Hs011.out _ _ ⟨g0, W.heap.size, rfl, st2⟩
          exact AllReadyH.nil
        refine wpAnyH_with 5 #[true, false, true, false, false, true, false, false] (fun a W => ∃ (g1 : Nat), a = ⟨#[zv sa (.slice Aa na ca), zv sb (.slice Ab nb cb), .pointer (some ⟨w.heap.size, 0, none⟩), .pointer (some ⟨w.heap.size + 1, 0, none⟩), .bool false, undef, .pointer (some ⟨g1, 0, none⟩), undef, undef, undef, undef, undef, undef, .bool true, .bool false, .pointer (some ⟨w.heap.size, 1, none⟩), .slice Aa na ca, .int .i64 ((na : Nat) : Int), .bool false, .bool false, .pointer (some ⟨w.heap.size + 1, 1, none⟩), .slice Ab nb cb, .int .i64 ((nb : Nat) : Int), .bool false, .bool false, zv sa (.slice Aa na ca), undef, zv sb (.slice Ab nb cb), undef, undef, undef, undef, undef, undef, undef, undef, undef, undef, undef, undef, undef, undef, undef, undef, undef, undef, undef, undef, undef, undef, undef, undef, undef, undef, undef, undef, undef, undef, undef, undef, undef, undef, undef, undef, undef, undef, undef, undef, undef, undef, undef, undef, undef, undef, undef, undef, undef, undef, undef, undef, undef, undef, undef, undef, undef, undef, undef, undef, undef, undef, undef, undef, undef, undef], []⟩ ∧ Sg w1.drew.heap.size w1.drew W [zblk, zblk] [none, some g1] (fun W => True)) ?_ (fun Hs001 => ?_)
        · rintro a W ⟨g1, rfl, st0⟩
          have hHeld := st0.1
          have st := hide st0
          clear st0
          refine wpAnyH_ready (rs := [1, 4]) (by kernel_rfl) (by simp) ?_
          refine AllReadyH.cons rfl (fun K hK => ?_) ?_
          · go_simp
            go_at_call 11
            refine Calls.mono (zcopy_l (L := 8) (R.out.1.step st.out.1) (by omega)) ?_
            rintro e wx ⟨v9, rfl, tx, bx⟩
            obtain ⟨Ax, nx, cx, rfl⟩ := tx.nw.slice
            try dsimp only
            have st2 := Sg.call (G := fun W => Lw W (.slice Ax nx cx) xsa 8) st.out bx Firm2.yes tx
            have hSt := hide st2
            refine hK.out _ _ st2.1 (fun hHeld => ?_)
            clear hK K st2
            (try simp only [Act.put, List.setIfInBounds_toArray, List.set_cons_zero, List.set_cons_succ])
            exact Hs101.out _ _ ⟨Ax, nx, cx, g1, rfl, hSt.out⟩
          refine AllReadyH.cons rfl (fun K hK => ?_) ?_
          · go_simp
            have st2 := Sg.make st.out Firm2.yes 0 _ rfl (by simp)
            refine hK.out _ _ st2.1 (fun hHeld => ?_)
            (try simp only [Act.put, List.setIfInBounds_toArray, List.set_cons_zero, List.set_cons_succ])
            exact Hs011.out _ _ ⟨W.heap.size, g1, rfl, st2⟩
          exact AllReadyH.nil
        refine wpAnyH_take (i := 0) (v := ?_) rfl (by kernel_rfl) (by kernel_rfl) (by kernel_rfl) (fun _ _ _ h => h) (Or.inl ⟨?_, ?_⟩) (by assumption) ?_
        rotate_left
        · rfl
        · (intro w hSw; have e0 := cell_keep P.out.1.1 hSw; have e1 := cell_keep P.out.1.2 hSw; go_simp; try with_reducible rfl)
        (try simp only [Act.put, List.setIfInBounds_toArray, List.set_cons_zero, List.set_cons_succ])
        refine wpAnyH_take (i := 2) (v := ?_) rfl (by kernel_rfl) (by kernel_rfl) (by kernel_rfl) (fun _ _ _ h => h) (Or.inl ⟨?_, ?_⟩) (by assumption) ?_
        rotate_left
        · rfl
        · (intro w hSw; have e0 := cell_keep P.out.2.1 hSw; have e1 := cell_keep P.out.2.2 hSw; go_simp; try with_reducible rfl)
        (try simp only [Act.put, List.setIfInBounds_toArray, List.set_cons_zero, List.set_cons_succ])
        refine wpAnyH_with 6 #[true, false, true, false, false, false, false, false] (fun a W => a = ⟨#[zv sa (.slice Aa na ca), zv sb (.slice Ab nb cb), .pointer (some ⟨w.heap.size, 0, none⟩), .pointer (some ⟨w.heap.size + 1, 0, none⟩), .bool false, undef, undef, undef, undef, undef, undef, undef, undef, .bool true, .bool false, .pointer (some ⟨w.heap.size, 1, none⟩), .slice Aa na ca, .int .i64 ((na : Nat) : Int), .bool false, .bool false, .pointer (some ⟨w.heap.size + 1, 1, none⟩), .slice Ab nb cb, .int .i64 ((nb : Nat) : Int), .bool false, .bool false, zv sa (.slice Aa na ca), undef, zv sb (.slice Ab nb cb), undef, undef, undef, undef, undef, undef, undef, undef, undef, undef, undef, undef, undef, undef, undef, undef, undef, undef, undef, undef, undef, undef, undef, undef, undef, undef, undef, undef, undef, undef, undef, undef, undef, undef, undef, undef, undef, undef, undef, undef, undef, undef, undef, undef, undef, undef, undef, undef, undef, undef, undef, undef, undef, undef, undef, undef, undef, undef, undef, undef, undef, undef, undef, undef, undef, undef], []⟩ ∧ Sg w1.drew.heap.size w1.drew W [zblk, zblk] [none, none] (fun W => True)) ?_ (fun Hs => Hs.out _ _ ⟨rfl, Sg.start _ _ 2⟩)
        rintro a W ⟨rfl, st0⟩
        have hHeld := st0.1
        have st := hide st0
        clear st0
        refine wpAnyH_ready (rs := [1, 4, 5]) (by kernel_rfl) (by simp) ?_
        refine AllReadyH.cons rfl (fun K hK => ?_) ?_
        · go_simp
          go_at_call 11
          refine Calls.mono (zcopy_l (L := 8) (R.out.1.step st.out.1) (by omega)) ?_
          rintro e wx ⟨v9, rfl, tx, bx⟩
          obtain ⟨Ax, nx, cx, rfl⟩ := tx.nw.slice
          try dsimp only
          have st2 := Sg.call (G := fun W => Lw W (.slice Ax nx cx) xsa 8) st.out bx Firm2.yes tx
          have hSt := hide st2
          refine hK.out _ _ st2.1 (fun hHeld => ?_)
          clear hK K st2
          (try simp only [Act.put, List.setIfInBounds_toArray, List.set_cons_zero, List.set_cons_succ])
          exact Hs100.out _ _ ⟨Ax, nx, cx, rfl, hSt.out⟩
        refine AllReadyH.cons rfl (fun K hK => ?_) ?_
        · go_simp
          have st2 := Sg.make st.out Firm2.yes 0 _ rfl (by simp)
          refine hK.out _ _ st2.1 (fun hHeld => ?_)
          (try simp only [Act.put, List.setIfInBounds_toArray, List.set_cons_zero, List.set_cons_succ])
          exact Hs010.out _ _ ⟨W.heap.size, rfl, st2⟩
        refine AllReadyH.cons rfl (fun K hK => ?_) ?_
        · go_simp
          have st2 := Sg.make st.out Firm2.yes 1 _ rfl (by simp)
          refine hK.out _ _ st2.1 (fun hHeld => ?_)
          (try simp only [Act.put, List.setIfInBounds_toArray, List.set_cons_zero, List.set_cons_succ])
          exact Hs001.out _ _ ⟨W.heap.size, rfl, st2⟩
        exact AllReadyH.nil
end Go.Proofs.Ytpcchagnbkohnaa
