/-
  The walk of ZintSums: true.
-/
import Derived.Test.YtpcchagnbkohnaaGreatDoorZgreat
import Derived.Test.YtpcchagnbkohnaaGreatDoorZown3
import Derived.Test.YtpcchagnbkohnaaGreatDoorZrefDC
import Derived.Test.YtpcchagnbkohnaaGreatDoorSpeakZ
import Derived.Test.YtpcchagnbkohnaaGreatDoorBundleD


namespace Go.Proofs.YtpcchagnbkohnaaGreatDoor
open Go.RowKit Go.Proofs.YtpcchagnbkohnaaGreatDoor.Num
set_option linter.unusedVariables false
set_option linter.unusedSimpArgs false
set_option maxRecDepth 100000

theorem Lw.bset {w : World} {v : Value} {xs : List Nat} {L g : Nat} (h : Lw w v xs L) (hz : Bn w g) (j : Nat) (u : Value) : Lw (w.setCell ⟨g, j, none⟩ u) v xs L := by
  obtain ⟨A, n, c, e, h1, h2⟩ := h
  exact ⟨A, n, c, e, by rw [World.size_setCell]; exact h1.bset hz j u, h2⟩
theorem Firm2.lw (v : Value) (xs : List Nat) (L : Nat) : Firm2 (fun W => Lw W v xs L) := ⟨fun _ _ h hb => h.step hb, fun _ _ j u h hn => h.bset hn j u⟩
theorem Nw.openZ {w : World} {A : Option Addr} {n c x L : Nat} (h : Nw w (.slice A n c) x L) : ∃ xs, vl Q xs = x ∧ (n ≤ 12 → Lw w (.slice A n c) xs 12) := by
  obtain ⟨xs, hx, A', n', c', e, h1, h2, h3, h4, h5⟩ := h.lw
  injection e with e1 e2 e3
  subst e1; subst e2; subst e3
  exact ⟨xs, hx, fun hn => ⟨A, n, c, rfl, h1, h2, h3, h4, hn⟩⟩
theorem Zi.parts {w : World} {v : Value} {z : Int} {L : Nat} (h : Zi w v z L) : ∃ s A n c, v = zv s (.slice A n c) ∧ Zi w (zv s (.slice A n c)) z L := by
  obtain ⟨u, rfl, hc⟩ := h
  obtain ⟨A, c, rfl, h⟩ := hc
  exact ⟨_, A, _, c, rfl, _, rfl, A, c, rfl, h⟩

set_option maxHeartbeats 16000000 in
theorem zsums_true (w : World) (sa : Bool) (ua : Value) (sb : Bool) (ub : Value) (xa xb : Nat) (hua : Nw w ua xa 17592186043904) (hub : Nw w ub xb 17592186043904) :
    Calls Tryz.prog 3 #[zv sa ua, zv sb ub] w fun e w' => e = .returned (.bool true) ∧ Below w.heap.size w w' := by
  obtain ⟨Aa, na, ca, rfl⟩ := hua.slice
  obtain ⟨Ab, nb, cb, rfl⟩ := hub.slice
  obtain ⟨xsa, hxa, hla⟩ := hua.openZ
  obtain ⟨xsb, hxb, hlb⟩ := hub.openZ
  obtain ⟨b2, y1, y2⟩ := box2 w sa sb Aa Ab na ca nb cb
  have P := hide (And.intro y1 y2)
  have B := hide b2
  have HL : Hid (¬ (12 < na ∨ 12 < nb) → Lw ((w.alloc (zbox sa (.slice Aa na ca))).alloc (zbox sb (.slice Ab nb cb))) (.slice Aa na ca) xsa 12 ∧ Lw ((w.alloc (zbox sa (.slice Aa na ca))).alloc (zbox sb (.slice Ab nb cb))) (.slice Ab nb cb) xsb 12) := hide (fun h => ⟨(hla (by omega)).step b2, (hlb (by omega)).step b2⟩)
  obtain ⟨ai, ha⟩ : ∃ ai, zi sa xa = ai := ⟨_, rfl⟩
  obtain ⟨bi, hb⟩ : ∃ bi, zi sb xb = bi := ⟨_, rfl⟩
  have HA : Hid (∀ W A n c, Lw W (.slice A n c) xsa 12 → Za W (zv sa (.slice A n c)) ai 12) := hide (fun W A n c h => h.za hxa ha)
  have HBB : Hid (∀ W A n c, Lw W (.slice A n c) xsb 12 → Za W (zv sb (.slice A n c)) bi 12) := hide (fun W A n c h => h.za hxb hb)
  have HMA : Hid (∀ W A n c, Lw W (.slice A n c) xsa 12 → Calls Tryz.prog 12 #[.bool sa, .slice A n c] W (ZoRet W ai 12)) := hide (fun W A n c h => by have h1 := zmake_o (s := sa) h.nw (by omega); rw [hxa, ha] at h1; exact h1)
  have HMB : Hid (∀ W A n c, Lw W (.slice A n c) xsb 12 → Calls Tryz.prog 12 #[.bool sb, .slice A n c] W (ZoRet W bi 12)) := hide (fun W A n c h => by have h1 := zmake_o (s := sb) h.nw (by omega); rw [hxb, hb] at h1; exact h1)
  clear hua hub hla hlb y1 y2 b2 hxa hxb ha hb
  by_cases hg : 12 < na ∨ 12 < nb
  · have HG := hide hg
    clear hg HL
    go_enter Tryz.func3, Tryz.ntmps3
    go_wp2_with fail
    refine (zspeaks_true _).mono ?_
    rintro e w1 ⟨rfl, bx⟩
    replace P := hide (And.intro (P.out.1.step bx) (P.out.2.step bx))
    replace B := hide (Below.step B.out B.out.size bx)
    clear bx
    obtain ⟨⟨p0, p1⟩, q0, q1⟩ := P.out
    go_wp2_with fail
    refine (zgreat_yes sa sb Aa Ab na ca nb cb _ HG.out).mono ?_
    rintro e w2 ⟨rfl, bx0⟩
    have bx := Below.step1 bx0 (Below.drew (Below.refl w2.heap.size w2))
    replace B := hide (Below.step B.out B.out.size bx0)
    clear bx bx0
    clear p0 p1 q0 q1
    go_wp2_with fail
    go_ret
    exact ⟨rfl, B.out⟩
  · have HG := hide (show na ≤ 12 ∧ nb ≤ 12 by omega)
    have R := hide (HL.out hg)
    clear hg HL
    have KM := hide (show (ai * bi).natAbs < Q ^ 24 by rw [Int.natAbs_mul]; exact Nat.lt_of_lt_of_eq (Nat.mul_lt_mul'' (HA.out _ _ _ _ R.out.1).lt (HBB.out _ _ _ _ R.out.2).lt) (Nat.pow_add Q 12 12).symm)
    go_enter Tryz.func3, Tryz.ntmps3
    go_wp2_with fail
    refine (zspeaks_true _).mono ?_
    rintro e w1 ⟨rfl, bx⟩
    replace P := hide (And.intro (P.out.1.step bx) (P.out.2.step bx))
    replace B := hide (Below.step B.out B.out.size bx)
    replace R := hide (And.intro (R.out.1.step bx) (R.out.2.step bx))
    clear bx
    obtain ⟨⟨p0, p1⟩, q0, q1⟩ := P.out
    go_wp2_with fail
    refine (zgreat_no sa sb Aa Ab na ca nb cb _ HG.out.1 HG.out.2).mono ?_
    rintro e w2 ⟨rfl, bx0⟩
    have bx := Below.step1 bx0 (Below.drew (Below.refl w2.heap.size w2))
    replace P := hide (And.intro (P.out.1.step bx) (P.out.2.step bx))
    replace R := hide (And.intro (R.out.1.step bx) (R.out.2.step bx))
    replace B := hide (Below.step B.out B.out.size bx)
    clear bx bx0
    clear p0 p1 q0 q1
    go_wp2_with fail
    refine wp_region_held_drew (S := fun W => Below w2.drew.heap.size w2.drew W) (by kernel_rfl) (Below.refl _ _) (fun hHeld => ?_)
    refine wpAnyH_with 2 #[true, true, true, true, true, true, false, false] (fun a W => ∃ (Ax : Option Addr) (nx cx : Nat) (Ay : Option Addr) (ny cy : Nat) (g0 : Nat) (g1 : Nat), a = ⟨#[zv sa (.slice Aa na ca), zv sb (.slice Ab nb cb), .pointer (some ⟨w.heap.size, 0, none⟩), .pointer (some ⟨w.heap.size + 1, 0, none⟩), .bool false, .pointer (some ⟨g0, 0, none⟩), .pointer (some ⟨g1, 0, none⟩), undef, undef, undef, undef, undef, undef, .bool true, .bool false, zv sa (.slice Aa na ca), zv sb (.slice Ab nb cb), .bool false, zv sa (.slice Aa na ca), zv sa (.slice Ax nx cx), zv sb (.slice Ab nb cb), zv sb (.slice Ay ny cy), undef, undef, undef, undef, undef, undef, undef, undef, undef, undef, undef, undef, undef, undef, undef, undef, undef, undef, undef, undef, undef, undef, undef, undef, undef, undef, undef, undef, undef, undef, undef, undef, undef, undef, undef, undef, undef, undef, undef, undef, undef, undef, undef, undef, undef, undef, undef, undef, undef, undef, undef, undef, undef, undef, undef, undef, undef, undef, undef, undef, undef, undef, undef, undef, undef, undef, undef, undef, undef, undef, undef, undef, undef, undef, undef, undef, undef, undef, undef, undef, undef, undef, undef, undef, undef, undef, undef, undef, undef, undef, undef, undef, undef, undef, undef, undef], []⟩ ∧ Sg w2.drew.heap.size w2.drew W [zblk, zblk] [some g0, some g1] (fun W => ((True ∧ Lw W (.slice Ax nx cx) xsa 12) ∧ Lw W (.slice Ay ny cy) xsb 12))) ?_ (fun Hs211 => ?_)
    · rintro a W ⟨Ax, nx, cx, Ay, ny, cy, g0, g1, rfl, st0⟩
      have hHeld := st0.1
      have st := hide st0
      clear st0
      obtain ⟨k0, f0⟩ := Sg.cells st.out 0 g0 #[.bool false, .slice none 0 0] 24 rfl rfl 0
      obtain ⟨k1, f1⟩ := Sg.cells st.out 0 g0 #[.bool false, .slice none 0 0] 24 rfl rfl 1
      simp only [List.getElem?_toArray, List.getElem?_cons_zero, List.getElem?_cons_succ] at k0
      simp only [List.getElem?_toArray, List.getElem?_cons_zero, List.getElem?_cons_succ] at k1
      have st9 := st.out
      have st9 := Sg.put st9 (Firm2.and (Firm2.and Firm2.yes (Firm2.lw _ _ _)) (Firm2.lw _ _ _)) 0 g0 0 _ 24 (.bool sa) rfl rfl rfl
      have st9 := Sg.put st9 (Firm2.and (Firm2.and Firm2.yes (Firm2.lw _ _ _)) (Firm2.lw _ _ _)) 0 g0 1 _ 24 (.slice Ax nx cx) rfl rfl rfl
      have st8 := hide st9
      clear st9
      refine wpAnyH_ready (rs := [6]) (by kernel_rfl) (by simp) ?_
      refine AllReadyH.cons rfl (fun K hK => ?_) ?_
      rotate_left
      · exact AllReadyH.nil
      go_simp
      refine hK.out _ _ st8.out.1 (fun hHeld => ?_)
      clear hK K k0 f0 k1 f1 st
      (try simp only [Act.put, List.setIfInBounds_toArray, List.set_cons_zero, List.set_cons_succ])
      generalize ((W.setCell ⟨g0, 0, none⟩ _).setCell ⟨g0, 1, none⟩ _) = W5 at *
      have st := st8
      clear st8
      obtain ⟨k0, f0⟩ := Sg.cells st.out 1 g1 #[.bool false, .slice none 0 0] 24 rfl rfl 0
      obtain ⟨k1, f1⟩ := Sg.cells st.out 1 g1 #[.bool false, .slice none 0 0] 24 rfl rfl 1
      simp only [List.getElem?_toArray, List.getElem?_cons_zero, List.getElem?_cons_succ] at k0
      simp only [List.getElem?_toArray, List.getElem?_cons_zero, List.getElem?_cons_succ] at k1
      have st9 := st.out
      have st9 := Sg.put st9 (Firm2.and (Firm2.and Firm2.yes (Firm2.lw _ _ _)) (Firm2.lw _ _ _)) 1 g1 0 _ 24 (.bool sb) rfl rfl rfl
      have st9 := Sg.put st9 (Firm2.and (Firm2.and Firm2.yes (Firm2.lw _ _ _)) (Firm2.lw _ _ _)) 1 g1 1 _ 24 (.slice Ay ny cy) rfl rfl rfl
      have st8 := hide st9
      clear st9
      refine wpAnyH_ready (rs := [7]) (by kernel_rfl) (by simp) ?_
      refine AllReadyH.cons rfl (fun K hK => ?_) ?_
      rotate_left
      · exact AllReadyH.nil
      go_simp
      refine hK.out _ _ st8.out.1 (fun hHeld => ?_)
      clear hK K k0 f0 k1 f1 st
      (try simp only [Act.put, List.setIfInBounds_toArray, List.set_cons_zero, List.set_cons_succ])
      generalize ((W5.setCell ⟨g1, 0, none⟩ _).setCell ⟨g1, 1, none⟩ _) = W6 at *
      have st := st8
      clear st8
      refine wpAnyH_done (by kernel_rfl) ?_ _
      clear hHeld
      have s9 := st.out
      have P := hide (And.intro (P.out.1.step s9.1) (And.intro (P.out.2.step s9.1) (And.intro (show Bx W6 g0 sa Ax nx cx from ⟨(Sg.cells s9 0 g0 _ _ rfl rfl 0).1, (Sg.cells s9 0 g0 _ _ rfl rfl 1).1⟩) (show Bx W6 g1 sb Ay ny cy from ⟨(Sg.cells s9 1 g1 _ _ rfl rfl 0).1, (Sg.cells s9 1 g1 _ _ rfl rfl 1).1⟩))))
      have R := hide (And.intro (R.out.1.step s9.1) (And.intro (R.out.2.step s9.1) (And.intro s9.2.2.1.1.2 s9.2.2.1.2)))
      have B := hide (Below.step B.out B.out.size s9.1)
      clear s9 st
      generalize W6 = w3 at *
      have bx := Below.drew (Below.refl w3.heap.size w3)
      replace P := hide ((And.intro (P.out.1.step bx) (And.intro (P.out.2.1.step bx) (And.intro (P.out.2.2.1.step bx) (P.out.2.2.2.step bx)))))
      replace R := hide ((And.intro (R.out.1.step bx) (And.intro (R.out.2.1.step bx) (And.intro (R.out.2.2.1.step bx) (R.out.2.2.2.step bx)))))
      replace B := hide (Below.step B.out B.out.size bx)
      clear bx
      go_wp2_with fail
      refine wp_region_held_drew (S := fun W => Below w3.drew.heap.size w3.drew W) (by kernel_rfl) (Below.refl _ _) (fun hHeld => ?_)
      refine wpAnyH_with 2 #[true, true, true, true, true, true, false, false] (fun a W => ∃ (se : Bool) (Ae : Option Addr) (ne ce : Nat) (sf : Bool) (Af : Option Addr) (nf cf : Nat) (h0 : Nat) (h1 : Nat), a = ⟨#[zv sa (.slice Aa na ca), zv sb (.slice Ab nb cb), .pointer (some ⟨w.heap.size, 0, none⟩), .pointer (some ⟨w.heap.size + 1, 0, none⟩), .bool false, .pointer (some ⟨g0, 0, none⟩), .pointer (some ⟨g1, 0, none⟩), .pointer (some ⟨h0, 0, none⟩), .pointer (some ⟨h1, 0, none⟩), undef, undef, undef, undef, .bool true, .bool false, zv sa (.slice Aa na ca), zv sb (.slice Ab nb cb), .bool false, zv sa (.slice Aa na ca), zv sa (.slice Ax nx cx), zv sb (.slice Ab nb cb), zv sb (.slice Ay ny cy), zv sa (.slice Aa na ca), zv se (.slice Ae ne ce), zv sb (.slice Ab nb cb), zv sf (.slice Af nf cf), undef, undef, undef, undef, undef, undef, undef, undef, undef, undef, undef, undef, undef, undef, undef, undef, undef, undef, undef, undef, undef, undef, undef, undef, undef, undef, undef, undef, undef, undef, undef, undef, undef, undef, undef, undef, undef, undef, undef, undef, undef, undef, undef, undef, undef, undef, undef, undef, undef, undef, undef, undef, undef, undef, undef, undef, undef, undef, undef, undef, undef, undef, undef, undef, undef, undef, undef, undef, undef, undef, undef, undef, undef, undef, undef, undef, undef, undef, undef, undef, undef, undef, undef, undef, undef, undef, undef, undef, undef, undef, undef, undef], []⟩ ∧ Sg w3.drew.heap.size w3.drew W [qblk, qblk] [some h0, some h1] (fun W => ((True ∧ Qi W (zv se (.slice Ae ne ce)) ai (5 * 12)) ∧ Qi W (zv sf (.slice Af nf cf)) bi (5 * 12)))) ?_ (fun Hs211 => ?_)
      · rintro a W ⟨se, Ae, ne, ce, sf, Af, nf, cf, h0, h1, rfl, st0⟩
        have hHeld := st0.1
        have st := hide st0
        clear st0
        obtain ⟨k0, f0⟩ := Sg.cells st.out 0 h0 #[.bool false, .slice none 0 0] 30 rfl rfl 0
        obtain ⟨k1, f1⟩ := Sg.cells st.out 0 h0 #[.bool false, .slice none 0 0] 30 rfl rfl 1
        simp only [List.getElem?_toArray, List.getElem?_cons_zero, List.getElem?_cons_succ] at k0
        simp only [List.getElem?_toArray, List.getElem?_cons_zero, List.getElem?_cons_succ] at k1
        have st9 := st.out
        have st9 := Sg.put st9 (Firm2.and (Firm2.and Firm2.yes (Firm2.qi _ _ _)) (Firm2.qi _ _ _)) 0 h0 0 _ 30 (.bool se) rfl rfl rfl
        have st9 := Sg.put st9 (Firm2.and (Firm2.and Firm2.yes (Firm2.qi _ _ _)) (Firm2.qi _ _ _)) 0 h0 1 _ 30 (.slice Ae ne ce) rfl rfl rfl
        have st8 := hide st9
        clear st9
        refine wpAnyH_ready (rs := [6]) (by kernel_rfl) (by simp) ?_
        refine AllReadyH.cons rfl (fun K hK => ?_) ?_
        rotate_left
        · exact AllReadyH.nil
        go_simp
        refine hK.out _ _ st8.out.1 (fun hHeld => ?_)
        clear hK K k0 f0 k1 f1 st
        (try simp only [Act.put, List.setIfInBounds_toArray, List.set_cons_zero, List.set_cons_succ])
        generalize ((W.setCell ⟨h0, 0, none⟩ _).setCell ⟨h0, 1, none⟩ _) = W5 at *
        have st := st8
        clear st8
        obtain ⟨k0, f0⟩ := Sg.cells st.out 1 h1 #[.bool false, .slice none 0 0] 30 rfl rfl 0
        obtain ⟨k1, f1⟩ := Sg.cells st.out 1 h1 #[.bool false, .slice none 0 0] 30 rfl rfl 1
        simp only [List.getElem?_toArray, List.getElem?_cons_zero, List.getElem?_cons_succ] at k0
        simp only [List.getElem?_toArray, List.getElem?_cons_zero, List.getElem?_cons_succ] at k1
        have st9 := st.out
        have st9 := Sg.put st9 (Firm2.and (Firm2.and Firm2.yes (Firm2.qi _ _ _)) (Firm2.qi _ _ _)) 1 h1 0 _ 30 (.bool sf) rfl rfl rfl
        have st9 := Sg.put st9 (Firm2.and (Firm2.and Firm2.yes (Firm2.qi _ _ _)) (Firm2.qi _ _ _)) 1 h1 1 _ 30 (.slice Af nf cf) rfl rfl rfl
        have st8 := hide st9
        clear st9
        refine wpAnyH_ready (rs := [7]) (by kernel_rfl) (by simp) ?_
        refine AllReadyH.cons rfl (fun K hK => ?_) ?_
        rotate_left
        · exact AllReadyH.nil
        go_simp
        refine hK.out _ _ st8.out.1 (fun hHeld => ?_)
        clear hK K k0 f0 k1 f1 st
        (try simp only [Act.put, List.setIfInBounds_toArray, List.set_cons_zero, List.set_cons_succ])
        generalize ((W5.setCell ⟨h1, 0, none⟩ _).setCell ⟨h1, 1, none⟩ _) = W6 at *
        have st := st8
        clear st8
        refine wpAnyH_done (by kernel_rfl) ?_ _
        clear hHeld
        have s9 := st.out
        have P := hide (And.intro (P.out.1.step s9.1) (And.intro (P.out.2.1.step s9.1) (And.intro (P.out.2.2.1.step s9.1) (And.intro (P.out.2.2.2.step s9.1) (And.intro (show Bx W6 h0 se Ae ne ce from ⟨(Sg.cells s9 0 h0 _ _ rfl rfl 0).1, (Sg.cells s9 0 h0 _ _ rfl rfl 1).1⟩) (show Bx W6 h1 sf Af nf cf from ⟨(Sg.cells s9 1 h1 _ _ rfl rfl 0).1, (Sg.cells s9 1 h1 _ _ rfl rfl 1).1⟩))))))
        replace R := hide ((And.intro (R.out.1.step s9.1) (And.intro (R.out.2.1.step s9.1) (And.intro (R.out.2.2.1.step s9.1) (R.out.2.2.2.step s9.1)))))
        have QQ := hide (And.intro s9.2.2.1.1.2 s9.2.2.1.2)
        have B := hide (Below.step B.out B.out.size s9.1)
        clear s9 st
        generalize W6 = w4 at *
        have bx := Below.drew (Below.refl w4.heap.size w4)
        replace P := hide ((And.intro (P.out.1.step bx) (And.intro (P.out.2.1.step bx) (And.intro (P.out.2.2.1.step bx) (And.intro (P.out.2.2.2.1.step bx) (And.intro (P.out.2.2.2.2.1.step bx) (P.out.2.2.2.2.2.step bx)))))))
        replace R := hide ((And.intro (R.out.1.step bx) (And.intro (R.out.2.1.step bx) (And.intro (R.out.2.2.1.step bx) (R.out.2.2.2.step bx)))))
        replace QQ := hide ((And.intro (QQ.out.1.step bx) (QQ.out.2.step bx)))
        replace B := hide (Below.step B.out B.out.size bx)
        clear bx
        go_wp2_with fail
        go_region_held3 (fun W => (W.cell? ⟨w.heap.size, 0, none⟩ = some (.bool sa) ∧ W.cell? ⟨w.heap.size, 1, none⟩ = some (.slice Aa na ca)) ∧ (W.cell? ⟨w.heap.size + 1, 0, none⟩ = some (.bool sb) ∧ W.cell? ⟨w.heap.size + 1, 1, none⟩ = some (.slice Ab nb cb)) ∧ (W.cell? ⟨g0, 0, none⟩ = some (.bool sa) ∧ W.cell? ⟨g0, 1, none⟩ = some (.slice Ax nx cx)) ∧ (W.cell? ⟨g1, 0, none⟩ = some (.bool sb) ∧ W.cell? ⟨g1, 1, none⟩ = some (.slice Ay ny cy)) ∧ (W.cell? ⟨h0, 0, none⟩ = some (.bool se) ∧ W.cell? ⟨h0, 1, none⟩ = some (.slice Ae ne ce)) ∧ (W.cell? ⟨h1, 0, none⟩ = some (.bool sf) ∧ W.cell? ⟨h1, 1, none⟩ = some (.slice Af nf cf)))
          (exact P.out)
          (first
            | (go_at_call 12; refine Calls.mono (HMA.out _ _ _ _ R.out.2.2.1) ?_; rintro e wx ⟨s30, A30, n30, c30, rfl, tx30, -, bx⟩; replace P := hide ((And.intro (P.out.1.step bx) (And.intro (P.out.2.1.step bx) (And.intro (P.out.2.2.1.step bx) (And.intro (P.out.2.2.2.1.step bx) (And.intro (P.out.2.2.2.2.1.step bx) (P.out.2.2.2.2.2.step bx))))))); replace R := hide ((And.intro (R.out.1.step bx) (And.intro (R.out.2.1.step bx) (And.intro (R.out.2.2.1.step bx) (R.out.2.2.2.step bx))))); replace QQ := hide ((And.intro (QQ.out.1.step bx) (QQ.out.2.step bx))); replace B := hide (Below.step B.out B.out.size bx))
            | (go_at_call 13; refine Calls.mono (qto_any (z := ai) (L := 5 * 12) ?_ (by omega)) ?_; (focus ((with_reducible exact QQ.out.1); done)); rintro e wx ⟨v32, rfl, tx32, bx⟩; replace P := hide ((And.intro (P.out.1.step bx) (And.intro (P.out.2.1.step bx) (And.intro (P.out.2.2.1.step bx) (And.intro (P.out.2.2.2.1.step bx) (And.intro (P.out.2.2.2.2.1.step bx) (P.out.2.2.2.2.2.step bx))))))); replace R := hide ((And.intro (R.out.1.step bx) (And.intro (R.out.2.1.step bx) (And.intro (R.out.2.2.1.step bx) (R.out.2.2.2.step bx))))); replace QQ := hide ((And.intro (QQ.out.1.step bx) (QQ.out.2.step bx))); replace B := hide (Below.step B.out B.out.size bx))
            | (go_at_call 11; refine Calls.mono (zsame_i (z := ai) (L := 12) (M := 5 * 12) ?_ ?_) ?_; (focus ((repeat (first | (with_reducible assumption) | (with_reducible refine Zi.step ?_ (by with_reducible assumption)))); done)); (focus ((repeat (first | (with_reducible assumption) | (with_reducible refine Zi.step ?_ (by with_reducible assumption)))); done)); rintro e wx ⟨rfl, bx⟩; replace P := hide ((And.intro (P.out.1.step bx) (And.intro (P.out.2.1.step bx) (And.intro (P.out.2.2.1.step bx) (And.intro (P.out.2.2.2.1.step bx) (And.intro (P.out.2.2.2.2.1.step bx) (P.out.2.2.2.2.2.step bx))))))); replace R := hide ((And.intro (R.out.1.step bx) (And.intro (R.out.2.1.step bx) (And.intro (R.out.2.2.1.step bx) (R.out.2.2.2.step bx))))); replace QQ := hide ((And.intro (QQ.out.1.step bx) (QQ.out.2.step bx))); replace B := hide (Below.step B.out B.out.size bx))
            | (go_at_call 14; refine Calls.mono (zneg_oa (a := ai) (L := 12) (HA.out _ _ _ _ R.out.2.2.1) (by omega)) ?_; rintro e wx ⟨s36, A36, n36, c36, rfl, tx36, -, bx⟩; replace P := hide ((And.intro (P.out.1.step bx) (And.intro (P.out.2.1.step bx) (And.intro (P.out.2.2.1.step bx) (And.intro (P.out.2.2.2.1.step bx) (And.intro (P.out.2.2.2.2.1.step bx) (P.out.2.2.2.2.2.step bx))))))); replace R := hide ((And.intro (R.out.1.step bx) (And.intro (R.out.2.1.step bx) (And.intro (R.out.2.2.1.step bx) (R.out.2.2.2.step bx))))); replace QQ := hide ((And.intro (QQ.out.1.step bx) (QQ.out.2.step bx))); replace B := hide (Below.step B.out B.out.size bx))
            | (go_at_call 15; refine Calls.mono (qneg_any (z := ai) (L := 5 * 12) QQ.out.1 (by omega)) ?_; rintro e wx ⟨v38, rfl, tx38, bx⟩; replace P := hide ((And.intro (P.out.1.step bx) (And.intro (P.out.2.1.step bx) (And.intro (P.out.2.2.1.step bx) (And.intro (P.out.2.2.2.1.step bx) (And.intro (P.out.2.2.2.2.1.step bx) (P.out.2.2.2.2.2.step bx))))))); replace R := hide ((And.intro (R.out.1.step bx) (And.intro (R.out.2.1.step bx) (And.intro (R.out.2.2.1.step bx) (R.out.2.2.2.step bx))))); replace QQ := hide ((And.intro (QQ.out.1.step bx) (QQ.out.2.step bx))); replace B := hide (Below.step B.out B.out.size bx))
            | (go_at_call 13; refine Calls.mono (qto_any (z := -ai) (L := 5 * 12) ?_ (by omega)) ?_; (focus ((repeat (first | (with_reducible assumption) | (with_reducible refine Qi.step ?_ (by with_reducible assumption)))); done)); rintro e wx ⟨v39, rfl, tx39, bx⟩; replace P := hide ((And.intro (P.out.1.step bx) (And.intro (P.out.2.1.step bx) (And.intro (P.out.2.2.1.step bx) (And.intro (P.out.2.2.2.1.step bx) (And.intro (P.out.2.2.2.2.1.step bx) (P.out.2.2.2.2.2.step bx))))))); replace R := hide ((And.intro (R.out.1.step bx) (And.intro (R.out.2.1.step bx) (And.intro (R.out.2.2.1.step bx) (R.out.2.2.2.step bx))))); replace QQ := hide ((And.intro (QQ.out.1.step bx) (QQ.out.2.step bx))); replace B := hide (Below.step B.out B.out.size bx))
            | (go_at_call 11; refine Calls.mono (zsame_i (z := -ai) (L := 12) (M := 5 * 12) ?_ ?_) ?_; (focus ((repeat (first | (with_reducible assumption) | (with_reducible refine Zi.step ?_ (by with_reducible assumption)))); done)); (focus ((repeat (first | (with_reducible assumption) | (with_reducible refine Zi.step ?_ (by with_reducible assumption)))); done)); rintro e wx ⟨rfl, bx⟩; replace P := hide ((And.intro (P.out.1.step bx) (And.intro (P.out.2.1.step bx) (And.intro (P.out.2.2.1.step bx) (And.intro (P.out.2.2.2.1.step bx) (And.intro (P.out.2.2.2.2.1.step bx) (P.out.2.2.2.2.2.step bx))))))); replace R := hide ((And.intro (R.out.1.step bx) (And.intro (R.out.2.1.step bx) (And.intro (R.out.2.2.1.step bx) (R.out.2.2.2.step bx))))); replace QQ := hide ((And.intro (QQ.out.1.step bx) (QQ.out.2.step bx))); replace B := hide (Below.step B.out B.out.size bx))
            | (go_at_call 16; refine Calls.mono (zsign_a (a := ai) (L := 12) (HA.out _ _ _ _ R.out.2.2.1) (by omega)) ?_; rintro e wx ⟨rfl, bx⟩; replace P := hide ((And.intro (P.out.1.step bx) (And.intro (P.out.2.1.step bx) (And.intro (P.out.2.2.1.step bx) (And.intro (P.out.2.2.2.1.step bx) (And.intro (P.out.2.2.2.2.1.step bx) (P.out.2.2.2.2.2.step bx))))))); replace R := hide ((And.intro (R.out.1.step bx) (And.intro (R.out.2.1.step bx) (And.intro (R.out.2.2.1.step bx) (R.out.2.2.2.step bx))))); replace QQ := hide ((And.intro (QQ.out.1.step bx) (QQ.out.2.step bx))); replace B := hide (Below.step B.out B.out.size bx))
            | (go_at_call 17; refine Calls.mono (qsign_any (z := ai) (L := 5 * 12) QQ.out.1) ?_; rintro e wx ⟨rfl, bx⟩; replace P := hide ((And.intro (P.out.1.step bx) (And.intro (P.out.2.1.step bx) (And.intro (P.out.2.2.1.step bx) (And.intro (P.out.2.2.2.1.step bx) (And.intro (P.out.2.2.2.2.1.step bx) (P.out.2.2.2.2.2.step bx))))))); replace R := hide ((And.intro (R.out.1.step bx) (And.intro (R.out.2.1.step bx) (And.intro (R.out.2.2.1.step bx) (R.out.2.2.2.step bx))))); replace QQ := hide ((And.intro (QQ.out.1.step bx) (QQ.out.2.step bx))); replace B := hide (Below.step B.out B.out.size bx))
            | (go_at_call 18; refine Calls.mono (zcmp_any (a := ai) (b := bi) (L := 12) (M := 12) (HA.out _ _ _ _ R.out.2.2.1) (HBB.out _ _ _ _ R.out.2.2.2) (by omega) (by omega)) ?_; rintro e wx ⟨rfl, bx⟩; replace P := hide ((And.intro (P.out.1.step bx) (And.intro (P.out.2.1.step bx) (And.intro (P.out.2.2.1.step bx) (And.intro (P.out.2.2.2.1.step bx) (And.intro (P.out.2.2.2.2.1.step bx) (P.out.2.2.2.2.2.step bx))))))); replace R := hide ((And.intro (R.out.1.step bx) (And.intro (R.out.2.1.step bx) (And.intro (R.out.2.2.1.step bx) (R.out.2.2.2.step bx))))); replace QQ := hide ((And.intro (QQ.out.1.step bx) (QQ.out.2.step bx))); replace B := hide (Below.step B.out B.out.size bx))
            | (go_at_call 19; refine Calls.mono (qcmp_any (a := ai) (b := bi) (L := 5 * 12) (M := 5 * 12) (K := 5 * 12) QQ.out.1 QQ.out.2 (by omega) (by omega) (by omega)) ?_; rintro e wx ⟨rfl, bx⟩; replace P := hide ((And.intro (P.out.1.step bx) (And.intro (P.out.2.1.step bx) (And.intro (P.out.2.2.1.step bx) (And.intro (P.out.2.2.2.1.step bx) (And.intro (P.out.2.2.2.2.1.step bx) (P.out.2.2.2.2.2.step bx))))))); replace R := hide ((And.intro (R.out.1.step bx) (And.intro (R.out.2.1.step bx) (And.intro (R.out.2.2.1.step bx) (R.out.2.2.2.step bx))))); replace QQ := hide ((And.intro (QQ.out.1.step bx) (QQ.out.2.step bx))); replace B := hide (Below.step B.out B.out.size bx)))
        all_goals
          generalize wx = M at *
          clear tx30 tx32 tx36 tx38 tx39
          have PM := P
          have RM := R
          have BM := B
          have BB := hide (Below.drew (Below.refl M.heap.size M))
          have bx := BB.out
          replace P := hide ((And.intro (P.out.1.step bx) (And.intro (P.out.2.1.step bx) (And.intro (P.out.2.2.1.step bx) (And.intro (P.out.2.2.2.1.step bx) (And.intro (P.out.2.2.2.2.1.step bx) (P.out.2.2.2.2.2.step bx)))))))
          replace R := hide ((And.intro (R.out.1.step bx) (And.intro (R.out.2.1.step bx) (And.intro (R.out.2.2.1.step bx) (R.out.2.2.2.step bx)))))
          replace QQ := hide ((And.intro (QQ.out.1.step bx) (QQ.out.2.step bx)))
          replace B := hide (Below.step B.out B.out.size bx)
          clear bx
          go_wp2_with fail
          refine wp_region_held_drew (S := fun W => Below M.drew.heap.size M.drew W) (by kernel_rfl) (Below.refl _ _) (fun hHeld => ?_)
          refine wpAnyH_with 3 #[true, true, true, true, true, true, true, true, true, true, true, true, false, false, false] (fun a W => ∃ (sp : Bool) (Ap : Option Addr) (np cp : Nat) (sq : Bool) (Aq : Option Addr) (nq cq : Nat) (sr : Bool) (Ar : Option Addr) (nr cr : Nat) (l0 : Nat) (l1 : Nat) (l2 : Nat), a = ⟨#[zv sa (.slice Aa na ca), zv sb (.slice Ab nb cb), .pointer (some ⟨w.heap.size, 0, none⟩), .pointer (some ⟨w.heap.size + 1, 0, none⟩), .bool false, .pointer (some ⟨g0, 0, none⟩), .pointer (some ⟨g1, 0, none⟩), .pointer (some ⟨h0, 0, none⟩), .pointer (some ⟨h1, 0, none⟩), .bool true, .pointer (some ⟨l0, 0, none⟩), .pointer (some ⟨l1, 0, none⟩), .pointer (some ⟨l2, 0, none⟩), .bool true, .bool false, zv sa (.slice Aa na ca), zv sb (.slice Ab nb cb), .bool false, zv sa (.slice Aa na ca), zv sa (.slice Ax nx cx), zv sb (.slice Ab nb cb), zv sb (.slice Ay ny cy), zv sa (.slice Aa na ca), zv se (.slice Ae ne ce), zv sb (.slice Ab nb cb), zv sf (.slice Af nf cf), .pointer (some ⟨g0, 0, none⟩), .bool sa, .pointer (some ⟨g0, 1, none⟩), .slice Ax nx cx, zv s30 (.slice A30 n30 c30), zv se (.slice Ae ne ce), v32, .bool true, .bool true, zv sa (.slice Ax nx cx), zv s36 (.slice A36 n36 c36), zv se (.slice Ae ne ce), v38, v39, .bool true, .bool true, .bool true, zv sa (.slice Ax nx cx), .int .i64 (zsg ai), zv se (.slice Ae ne ce), .int .i64 (zsg ai), .bool true, .bool true, .bool true, zv sa (.slice Ax nx cx), zv sb (.slice Ay ny cy), .int .i64 (cmpZ ai bi), zv se (.slice Ae ne ce), zv sf (.slice Af nf cf), .int .i64 (cmpZ ai bi), .bool true, .bool true, zv sa (.slice Ax nx cx), zv sb (.slice Ay ny cy), zv sp (.slice Ap np cp), zv sa (.slice Ax nx cx), zv sb (.slice Ay ny cy), zv sq (.slice Aq nq cq), zv sa (.slice Ax nx cx), zv sb (.slice Ay ny cy), zv sr (.slice Ar nr cr), undef, undef, undef, undef, undef, undef, undef, undef, undef, undef, undef, undef, undef, undef, undef, undef, undef, undef, undef, undef, undef, undef, undef, undef, undef, undef, undef, undef, undef, undef, undef, undef, undef, undef, undef, undef, undef, undef, undef, undef, undef, undef, undef, undef, undef, undef, undef, undef, undef, undef, undef], []⟩ ∧ Sg M.drew.heap.size M.drew W [zblk, zblk, zblk] [some l0, some l1, some l2] (fun W => (((True ∧ (Zi W (zv sp (.slice Ap np cp)) (ai + bi) (12 + 1) ∧ Ows W M.heap.size (.slice Ap np cp) (cn Q (ai + bi).natAbs))) ∧ (Zi W (zv sq (.slice Aq nq cq)) (ai - bi) (12 + 1) ∧ (Ows W M.heap.size (.slice Aq nq cq) (cn Q (ai - bi).natAbs) ∧ Dj (cn Q (ai + bi).natAbs) (.slice Ap np cp) (.slice Aq nq cq)))) ∧ (Zi W (zv sr (.slice Ar nr cr)) (ai * bi) (24) ∧ (Ows W M.heap.size (.slice Ar nr cr) (cn Q (ai * bi).natAbs) ∧ (Dj (cn Q (ai + bi).natAbs) (.slice Ap np cp) (.slice Ar nr cr) ∧ Dj (cn Q (ai - bi).natAbs) (.slice Aq nq cq) (.slice Ar nr cr))))))) ?_ (fun Hs3111 => ?_)
          · rintro a W ⟨sp, Ap, np, cp, sq, Aq, nq, cq, sr, Ar, nr, cr, l0, l1, l2, rfl, st0⟩
            have hHeld := st0.1
            have st := hide st0
            clear st0
            obtain ⟨k0, f0⟩ := Sg.cells st.out 0 l0 #[.bool false, .slice none 0 0] 24 rfl rfl 0
            obtain ⟨k1, f1⟩ := Sg.cells st.out 0 l0 #[.bool false, .slice none 0 0] 24 rfl rfl 1
            simp only [List.getElem?_toArray, List.getElem?_cons_zero, List.getElem?_cons_succ] at k0
            simp only [List.getElem?_toArray, List.getElem?_cons_zero, List.getElem?_cons_succ] at k1
            have st9 := st.out
            have st9 := Sg.put st9 (Firm2.and (Firm2.and (Firm2.and Firm2.yes (Firm2.and (Firm2.zi _ _ _) (Firm2.ows _ _ _))) (Firm2.and (Firm2.zi _ _ _) (Firm2.and (Firm2.ows _ _ _) (Firm2.any _)))) (Firm2.and (Firm2.zi _ _ _) (Firm2.and (Firm2.ows _ _ _) (Firm2.and (Firm2.any _) (Firm2.any _))))) 0 l0 0 _ 24 (.bool sp) rfl rfl rfl
            have st9 := Sg.put st9 (Firm2.and (Firm2.and (Firm2.and Firm2.yes (Firm2.and (Firm2.zi _ _ _) (Firm2.ows _ _ _))) (Firm2.and (Firm2.zi _ _ _) (Firm2.and (Firm2.ows _ _ _) (Firm2.any _)))) (Firm2.and (Firm2.zi _ _ _) (Firm2.and (Firm2.ows _ _ _) (Firm2.and (Firm2.any _) (Firm2.any _))))) 0 l0 1 _ 24 (.slice Ap np cp) rfl rfl rfl
            have st8 := hide st9
            clear st9
            refine wpAnyH_ready (rs := [12]) (by kernel_rfl) (by simp) ?_
            refine AllReadyH.cons rfl (fun K hK => ?_) ?_
            rotate_left
            · exact AllReadyH.nil
            go_simp
            refine hK.out _ _ st8.out.1 (fun hHeld => ?_)
            clear hK K k0 f0 k1 f1 st
            (try simp only [Act.put, List.setIfInBounds_toArray, List.set_cons_zero, List.set_cons_succ])
            generalize ((W.setCell ⟨l0, 0, none⟩ _).setCell ⟨l0, 1, none⟩ _) = W5 at *
            have st := st8
            clear st8
            obtain ⟨k0, f0⟩ := Sg.cells st.out 1 l1 #[.bool false, .slice none 0 0] 24 rfl rfl 0
            obtain ⟨k1, f1⟩ := Sg.cells st.out 1 l1 #[.bool false, .slice none 0 0] 24 rfl rfl 1
            simp only [List.getElem?_toArray, List.getElem?_cons_zero, List.getElem?_cons_succ] at k0
            simp only [List.getElem?_toArray, List.getElem?_cons_zero, List.getElem?_cons_succ] at k1
            have st9 := st.out
            have st9 := Sg.put st9 (Firm2.and (Firm2.and (Firm2.and Firm2.yes (Firm2.and (Firm2.zi _ _ _) (Firm2.ows _ _ _))) (Firm2.and (Firm2.zi _ _ _) (Firm2.and (Firm2.ows _ _ _) (Firm2.any _)))) (Firm2.and (Firm2.zi _ _ _) (Firm2.and (Firm2.ows _ _ _) (Firm2.and (Firm2.any _) (Firm2.any _))))) 1 l1 0 _ 24 (.bool sq) rfl rfl rfl
            have st9 := Sg.put st9 (Firm2.and (Firm2.and (Firm2.and Firm2.yes (Firm2.and (Firm2.zi _ _ _) (Firm2.ows _ _ _))) (Firm2.and (Firm2.zi _ _ _) (Firm2.and (Firm2.ows _ _ _) (Firm2.any _)))) (Firm2.and (Firm2.zi _ _ _) (Firm2.and (Firm2.ows _ _ _) (Firm2.and (Firm2.any _) (Firm2.any _))))) 1 l1 1 _ 24 (.slice Aq nq cq) rfl rfl rfl
            have st8 := hide st9
            clear st9
            refine wpAnyH_ready (rs := [13]) (by kernel_rfl) (by simp) ?_
            refine AllReadyH.cons rfl (fun K hK => ?_) ?_
            rotate_left
            · exact AllReadyH.nil
            go_simp
            refine hK.out _ _ st8.out.1 (fun hHeld => ?_)
            clear hK K k0 f0 k1 f1 st
            (try simp only [Act.put, List.setIfInBounds_toArray, List.set_cons_zero, List.set_cons_succ])
            generalize ((W5.setCell ⟨l1, 0, none⟩ _).setCell ⟨l1, 1, none⟩ _) = W6 at *
            have st := st8
            clear st8
            obtain ⟨k0, f0⟩ := Sg.cells st.out 2 l2 #[.bool false, .slice none 0 0] 24 rfl rfl 0
            obtain ⟨k1, f1⟩ := Sg.cells st.out 2 l2 #[.bool false, .slice none 0 0] 24 rfl rfl 1
            simp only [List.getElem?_toArray, List.getElem?_cons_zero, List.getElem?_cons_succ] at k0
            simp only [List.getElem?_toArray, List.getElem?_cons_zero, List.getElem?_cons_succ] at k1
            have st9 := st.out
            have st9 := Sg.put st9 (Firm2.and (Firm2.and (Firm2.and Firm2.yes (Firm2.and (Firm2.zi _ _ _) (Firm2.ows _ _ _))) (Firm2.and (Firm2.zi _ _ _) (Firm2.and (Firm2.ows _ _ _) (Firm2.any _)))) (Firm2.and (Firm2.zi _ _ _) (Firm2.and (Firm2.ows _ _ _) (Firm2.and (Firm2.any _) (Firm2.any _))))) 2 l2 0 _ 24 (.bool sr) rfl rfl rfl
            have st9 := Sg.put st9 (Firm2.and (Firm2.and (Firm2.and Firm2.yes (Firm2.and (Firm2.zi _ _ _) (Firm2.ows _ _ _))) (Firm2.and (Firm2.zi _ _ _) (Firm2.and (Firm2.ows _ _ _) (Firm2.any _)))) (Firm2.and (Firm2.zi _ _ _) (Firm2.and (Firm2.ows _ _ _) (Firm2.and (Firm2.any _) (Firm2.any _))))) 2 l2 1 _ 24 (.slice Ar nr cr) rfl rfl rfl
            have st8 := hide st9
            clear st9
            refine wpAnyH_ready (rs := [14]) (by kernel_rfl) (by simp) ?_
            refine AllReadyH.cons rfl (fun K hK => ?_) ?_
            rotate_left
            · exact AllReadyH.nil
            go_simp
            refine hK.out _ _ st8.out.1 (fun hHeld => ?_)
            clear hK K k0 f0 k1 f1 st
            (try simp only [Act.put, List.setIfInBounds_toArray, List.set_cons_zero, List.set_cons_succ])
            generalize ((W6.setCell ⟨l2, 0, none⟩ _).setCell ⟨l2, 1, none⟩ _) = W7 at *
            have st := st8
            clear st8
            refine wpAnyH_done (by kernel_rfl) ?_ _
            clear hHeld
            have s9 := st.out
            have P := hide (And.intro (P.out.1.step s9.1) (And.intro (P.out.2.1.step s9.1) (And.intro (P.out.2.2.1.step s9.1) (And.intro (P.out.2.2.2.1.step s9.1) (And.intro (P.out.2.2.2.2.1.step s9.1) (And.intro (P.out.2.2.2.2.2.step s9.1) (And.intro (show Bx W7 l0 sp Ap np cp from ⟨(Sg.cells s9 0 l0 _ _ rfl rfl 0).1, (Sg.cells s9 0 l0 _ _ rfl rfl 1).1⟩) (And.intro (show Bx W7 l1 sq Aq nq cq from ⟨(Sg.cells s9 1 l1 _ _ rfl rfl 0).1, (Sg.cells s9 1 l1 _ _ rfl rfl 1).1⟩) (show Bx W7 l2 sr Ar nr cr from ⟨(Sg.cells s9 2 l2 _ _ rfl rfl 0).1, (Sg.cells s9 2 l2 _ _ rfl rfl 1).1⟩)))))))))
            replace R := hide ((And.intro (R.out.1.step s9.1) (And.intro (R.out.2.1.step s9.1) (And.intro (R.out.2.2.1.step s9.1) (R.out.2.2.2.step s9.1)))))
            replace QQ := hide (And.intro (QQ.out.1.step s9.1) (QQ.out.2.step s9.1))
            have T := hide (And.intro s9.2.2.1.1.1.2.1 (And.intro s9.2.2.1.1.2.1 s9.2.2.1.2.1))
            have OO := hide (And.intro s9.2.2.1.1.1.2.2 (And.intro s9.2.2.1.1.2.2.1 s9.2.2.1.2.2.1))
            have DD := hide (And.intro s9.2.2.1.1.2.2.2 s9.2.2.1.2.2.2)
            replace BB := hide (Below.step BB.out BB.out.size s9.1)
            have B := hide (Below.step B.out B.out.size s9.1)
            clear s9 st
            generalize W7 = w5 at *
            have bx := Below.drew (Below.refl w5.heap.size w5)
            replace P := hide ((And.intro (P.out.1.step bx) (And.intro (P.out.2.1.step bx) (And.intro (P.out.2.2.1.step bx) (And.intro (P.out.2.2.2.1.step bx) (And.intro (P.out.2.2.2.2.1.step bx) (And.intro (P.out.2.2.2.2.2.1.step bx) (And.intro (P.out.2.2.2.2.2.2.1.step bx) (And.intro (P.out.2.2.2.2.2.2.2.1.step bx) (P.out.2.2.2.2.2.2.2.2.step bx))))))))))
            replace R := hide ((And.intro (R.out.1.step bx) (And.intro (R.out.2.1.step bx) (And.intro (R.out.2.2.1.step bx) (R.out.2.2.2.step bx)))))
            replace QQ := hide ((And.intro (QQ.out.1.step bx) (QQ.out.2.step bx)))
            replace T := hide ((And.intro (T.out.1.step bx) (And.intro (T.out.2.1.step bx) (T.out.2.2.step bx))))
            replace OO := hide ((And.intro (OO.out.1.step bx) (And.intro (OO.out.2.1.step bx) (OO.out.2.2.step bx))))
            replace B := hide (Below.step B.out B.out.size bx)
            replace BB := hide (Below.step BB.out BB.out.size bx)
            clear bx
            go_wp2_with fail
            go_region_held3 (fun W => (W.cell? ⟨w.heap.size, 0, none⟩ = some (.bool sa) ∧ W.cell? ⟨w.heap.size, 1, none⟩ = some (.slice Aa na ca)) ∧ (W.cell? ⟨w.heap.size + 1, 0, none⟩ = some (.bool sb) ∧ W.cell? ⟨w.heap.size + 1, 1, none⟩ = some (.slice Ab nb cb)) ∧ (W.cell? ⟨g0, 0, none⟩ = some (.bool sa) ∧ W.cell? ⟨g0, 1, none⟩ = some (.slice Ax nx cx)) ∧ (W.cell? ⟨g1, 0, none⟩ = some (.bool sb) ∧ W.cell? ⟨g1, 1, none⟩ = some (.slice Ay ny cy)) ∧ (W.cell? ⟨h0, 0, none⟩ = some (.bool se) ∧ W.cell? ⟨h0, 1, none⟩ = some (.slice Ae ne ce)) ∧ (W.cell? ⟨h1, 0, none⟩ = some (.bool sf) ∧ W.cell? ⟨h1, 1, none⟩ = some (.slice Af nf cf)) ∧ (W.cell? ⟨l0, 0, none⟩ = some (.bool sp) ∧ W.cell? ⟨l0, 1, none⟩ = some (.slice Ap np cp)) ∧ (W.cell? ⟨l1, 0, none⟩ = some (.bool sq) ∧ W.cell? ⟨l1, 1, none⟩ = some (.slice Aq nq cq)) ∧ (W.cell? ⟨l2, 0, none⟩ = some (.bool sr) ∧ W.cell? ⟨l2, 1, none⟩ = some (.slice Ar nr cr)))
              (exact P.out)
              (first
                | (go_at_call 23; refine Calls.mono (qadd_any (a := ai) (b := bi) (L := 5 * 12) (M := 5 * 12) (K := 5 * 12) QQ.out.1 QQ.out.2 (by omega) (by omega) (by omega)) ?_; rintro e wx ⟨v72, rfl, tx72, bx⟩; replace P := hide ((And.intro (P.out.1.step bx) (And.intro (P.out.2.1.step bx) (And.intro (P.out.2.2.1.step bx) (And.intro (P.out.2.2.2.1.step bx) (And.intro (P.out.2.2.2.2.1.step bx) (And.intro (P.out.2.2.2.2.2.1.step bx) (And.intro (P.out.2.2.2.2.2.2.1.step bx) (And.intro (P.out.2.2.2.2.2.2.2.1.step bx) (P.out.2.2.2.2.2.2.2.2.step bx)))))))))); replace R := hide ((And.intro (R.out.1.step bx) (And.intro (R.out.2.1.step bx) (And.intro (R.out.2.2.1.step bx) (R.out.2.2.2.step bx))))); replace QQ := hide ((And.intro (QQ.out.1.step bx) (QQ.out.2.step bx))); replace T := hide ((And.intro (T.out.1.step bx) (And.intro (T.out.2.1.step bx) (T.out.2.2.step bx)))); replace OO := hide ((And.intro (OO.out.1.step bx) (And.intro (OO.out.2.1.step bx) (OO.out.2.2.step bx)))); replace B := hide (Below.step B.out B.out.size bx); replace BB := hide (Below.step BB.out BB.out.size bx))
                | (go_at_call 24; refine Calls.mono (qsub_any (a := ai) (b := bi) (L := 5 * 12) (M := 5 * 12) (K := 5 * 12) QQ.out.1 QQ.out.2 (by omega) (by omega) (by omega)) ?_; rintro e wx ⟨v80, rfl, tx80, bx⟩; replace P := hide ((And.intro (P.out.1.step bx) (And.intro (P.out.2.1.step bx) (And.intro (P.out.2.2.1.step bx) (And.intro (P.out.2.2.2.1.step bx) (And.intro (P.out.2.2.2.2.1.step bx) (And.intro (P.out.2.2.2.2.2.1.step bx) (And.intro (P.out.2.2.2.2.2.2.1.step bx) (And.intro (P.out.2.2.2.2.2.2.2.1.step bx) (P.out.2.2.2.2.2.2.2.2.step bx)))))))))); replace R := hide ((And.intro (R.out.1.step bx) (And.intro (R.out.2.1.step bx) (And.intro (R.out.2.2.1.step bx) (R.out.2.2.2.step bx))))); replace QQ := hide ((And.intro (QQ.out.1.step bx) (QQ.out.2.step bx))); replace T := hide ((And.intro (T.out.1.step bx) (And.intro (T.out.2.1.step bx) (T.out.2.2.step bx)))); replace OO := hide ((And.intro (OO.out.1.step bx) (And.intro (OO.out.2.1.step bx) (OO.out.2.2.step bx)))); replace B := hide (Below.step B.out B.out.size bx); replace BB := hide (Below.step BB.out BB.out.size bx))
                | (go_at_call 25; refine Calls.mono (qmul_any (a := ai) (b := bi) (L := 5 * 12) (M := 5 * 12) QQ.out.1 QQ.out.2 (by omega) (by omega)) ?_; rintro e wx ⟨v88, rfl, tx88, bx⟩; replace P := hide ((And.intro (P.out.1.step bx) (And.intro (P.out.2.1.step bx) (And.intro (P.out.2.2.1.step bx) (And.intro (P.out.2.2.2.1.step bx) (And.intro (P.out.2.2.2.2.1.step bx) (And.intro (P.out.2.2.2.2.2.1.step bx) (And.intro (P.out.2.2.2.2.2.2.1.step bx) (And.intro (P.out.2.2.2.2.2.2.2.1.step bx) (P.out.2.2.2.2.2.2.2.2.step bx)))))))))); replace R := hide ((And.intro (R.out.1.step bx) (And.intro (R.out.2.1.step bx) (And.intro (R.out.2.2.1.step bx) (R.out.2.2.2.step bx))))); replace QQ := hide ((And.intro (QQ.out.1.step bx) (QQ.out.2.step bx))); replace T := hide ((And.intro (T.out.1.step bx) (And.intro (T.out.2.1.step bx) (T.out.2.2.step bx)))); replace OO := hide ((And.intro (OO.out.1.step bx) (And.intro (OO.out.2.1.step bx) (OO.out.2.2.step bx)))); replace B := hide (Below.step B.out B.out.size bx); replace BB := hide (Below.step BB.out BB.out.size bx))
                | (go_at_call 13; refine Calls.mono (qto_any (z := ai + bi) (L := 5 * 12 + 1) ?_ (by omega)) ?_; (focus ((repeat (first | (with_reducible assumption) | (with_reducible refine Qi.step ?_ (by with_reducible assumption)))); done)); rintro e wx ⟨v73, rfl, tx73, bx⟩; replace P := hide ((And.intro (P.out.1.step bx) (And.intro (P.out.2.1.step bx) (And.intro (P.out.2.2.1.step bx) (And.intro (P.out.2.2.2.1.step bx) (And.intro (P.out.2.2.2.2.1.step bx) (And.intro (P.out.2.2.2.2.2.1.step bx) (And.intro (P.out.2.2.2.2.2.2.1.step bx) (And.intro (P.out.2.2.2.2.2.2.2.1.step bx) (P.out.2.2.2.2.2.2.2.2.step bx)))))))))); replace R := hide ((And.intro (R.out.1.step bx) (And.intro (R.out.2.1.step bx) (And.intro (R.out.2.2.1.step bx) (R.out.2.2.2.step bx))))); replace QQ := hide ((And.intro (QQ.out.1.step bx) (QQ.out.2.step bx))); replace T := hide ((And.intro (T.out.1.step bx) (And.intro (T.out.2.1.step bx) (T.out.2.2.step bx)))); replace OO := hide ((And.intro (OO.out.1.step bx) (And.intro (OO.out.2.1.step bx) (OO.out.2.2.step bx)))); replace B := hide (Below.step B.out B.out.size bx); replace BB := hide (Below.step BB.out BB.out.size bx))
                | (go_at_call 13; refine Calls.mono (qto_any (z := ai - bi) (L := 5 * 12 + 1) ?_ (by omega)) ?_; (focus ((repeat (first | (with_reducible assumption) | (with_reducible refine Qi.step ?_ (by with_reducible assumption)))); done)); rintro e wx ⟨v81, rfl, tx81, bx⟩; replace P := hide ((And.intro (P.out.1.step bx) (And.intro (P.out.2.1.step bx) (And.intro (P.out.2.2.1.step bx) (And.intro (P.out.2.2.2.1.step bx) (And.intro (P.out.2.2.2.2.1.step bx) (And.intro (P.out.2.2.2.2.2.1.step bx) (And.intro (P.out.2.2.2.2.2.2.1.step bx) (And.intro (P.out.2.2.2.2.2.2.2.1.step bx) (P.out.2.2.2.2.2.2.2.2.step bx)))))))))); replace R := hide ((And.intro (R.out.1.step bx) (And.intro (R.out.2.1.step bx) (And.intro (R.out.2.2.1.step bx) (R.out.2.2.2.step bx))))); replace QQ := hide ((And.intro (QQ.out.1.step bx) (QQ.out.2.step bx))); replace T := hide ((And.intro (T.out.1.step bx) (And.intro (T.out.2.1.step bx) (T.out.2.2.step bx)))); replace OO := hide ((And.intro (OO.out.1.step bx) (And.intro (OO.out.2.1.step bx) (OO.out.2.2.step bx)))); replace B := hide (Below.step B.out B.out.size bx); replace BB := hide (Below.step BB.out BB.out.size bx))
                | (go_at_call 13; refine Calls.mono (qto_any (z := ai * bi) (L := 5 * 12 + 5 * 12) ?_ (by omega)) ?_; (focus ((repeat (first | (with_reducible assumption) | (with_reducible refine Qi.step ?_ (by with_reducible assumption)))); done)); rintro e wx ⟨v89, rfl, tx89, bx⟩; replace P := hide ((And.intro (P.out.1.step bx) (And.intro (P.out.2.1.step bx) (And.intro (P.out.2.2.1.step bx) (And.intro (P.out.2.2.2.1.step bx) (And.intro (P.out.2.2.2.2.1.step bx) (And.intro (P.out.2.2.2.2.2.1.step bx) (And.intro (P.out.2.2.2.2.2.2.1.step bx) (And.intro (P.out.2.2.2.2.2.2.2.1.step bx) (P.out.2.2.2.2.2.2.2.2.step bx)))))))))); replace R := hide ((And.intro (R.out.1.step bx) (And.intro (R.out.2.1.step bx) (And.intro (R.out.2.2.1.step bx) (R.out.2.2.2.step bx))))); replace QQ := hide ((And.intro (QQ.out.1.step bx) (QQ.out.2.step bx))); replace T := hide ((And.intro (T.out.1.step bx) (And.intro (T.out.2.1.step bx) (T.out.2.2.step bx)))); replace OO := hide ((And.intro (OO.out.1.step bx) (And.intro (OO.out.2.1.step bx) (OO.out.2.2.step bx)))); replace B := hide (Below.step B.out B.out.size bx); replace BB := hide (Below.step BB.out BB.out.size bx))
                | (go_at_call 11; refine Calls.mono (zsame_i (z := ai + bi) (L := 12 + 1) (M := 5 * 12 + 1) ?_ ?_) ?_; (focus ((with_reducible exact T.out.1); done)); (focus ((repeat (first | (with_reducible assumption) | (with_reducible refine Zi.step ?_ (by with_reducible assumption)))); done)); rintro e wx ⟨rfl, bx⟩; replace P := hide ((And.intro (P.out.1.step bx) (And.intro (P.out.2.1.step bx) (And.intro (P.out.2.2.1.step bx) (And.intro (P.out.2.2.2.1.step bx) (And.intro (P.out.2.2.2.2.1.step bx) (And.intro (P.out.2.2.2.2.2.1.step bx) (And.intro (P.out.2.2.2.2.2.2.1.step bx) (And.intro (P.out.2.2.2.2.2.2.2.1.step bx) (P.out.2.2.2.2.2.2.2.2.step bx)))))))))); replace R := hide ((And.intro (R.out.1.step bx) (And.intro (R.out.2.1.step bx) (And.intro (R.out.2.2.1.step bx) (R.out.2.2.2.step bx))))); replace QQ := hide ((And.intro (QQ.out.1.step bx) (QQ.out.2.step bx))); replace T := hide ((And.intro (T.out.1.step bx) (And.intro (T.out.2.1.step bx) (T.out.2.2.step bx)))); replace OO := hide ((And.intro (OO.out.1.step bx) (And.intro (OO.out.2.1.step bx) (OO.out.2.2.step bx)))); replace B := hide (Below.step B.out B.out.size bx); replace BB := hide (Below.step BB.out BB.out.size bx))
                | (go_at_call 11; refine Calls.mono (zsame_i (z := ai - bi) (L := 12 + 1) (M := 5 * 12 + 1) ?_ ?_) ?_; (focus ((with_reducible exact T.out.2.1); done)); (focus ((repeat (first | (with_reducible assumption) | (with_reducible refine Zi.step ?_ (by with_reducible assumption)))); done)); rintro e wx ⟨rfl, bx⟩; replace P := hide ((And.intro (P.out.1.step bx) (And.intro (P.out.2.1.step bx) (And.intro (P.out.2.2.1.step bx) (And.intro (P.out.2.2.2.1.step bx) (And.intro (P.out.2.2.2.2.1.step bx) (And.intro (P.out.2.2.2.2.2.1.step bx) (And.intro (P.out.2.2.2.2.2.2.1.step bx) (And.intro (P.out.2.2.2.2.2.2.2.1.step bx) (P.out.2.2.2.2.2.2.2.2.step bx)))))))))); replace R := hide ((And.intro (R.out.1.step bx) (And.intro (R.out.2.1.step bx) (And.intro (R.out.2.2.1.step bx) (R.out.2.2.2.step bx))))); replace QQ := hide ((And.intro (QQ.out.1.step bx) (QQ.out.2.step bx))); replace T := hide ((And.intro (T.out.1.step bx) (And.intro (T.out.2.1.step bx) (T.out.2.2.step bx)))); replace OO := hide ((And.intro (OO.out.1.step bx) (And.intro (OO.out.2.1.step bx) (OO.out.2.2.step bx)))); replace B := hide (Below.step B.out B.out.size bx); replace BB := hide (Below.step BB.out BB.out.size bx))
                | (go_at_call 11; refine Calls.mono (zsame_i (z := ai * bi) (L := 24) (M := 5 * 12 + 5 * 12) ?_ ?_) ?_; (focus ((with_reducible exact T.out.2.2); done)); (focus ((repeat (first | (with_reducible assumption) | (with_reducible refine Zi.step ?_ (by with_reducible assumption)))); done)); rintro e wx ⟨rfl, bx⟩; replace P := hide ((And.intro (P.out.1.step bx) (And.intro (P.out.2.1.step bx) (And.intro (P.out.2.2.1.step bx) (And.intro (P.out.2.2.2.1.step bx) (And.intro (P.out.2.2.2.2.1.step bx) (And.intro (P.out.2.2.2.2.2.1.step bx) (And.intro (P.out.2.2.2.2.2.2.1.step bx) (And.intro (P.out.2.2.2.2.2.2.2.1.step bx) (P.out.2.2.2.2.2.2.2.2.step bx)))))))))); replace R := hide ((And.intro (R.out.1.step bx) (And.intro (R.out.2.1.step bx) (And.intro (R.out.2.2.1.step bx) (R.out.2.2.2.step bx))))); replace QQ := hide ((And.intro (QQ.out.1.step bx) (QQ.out.2.step bx))); replace T := hide ((And.intro (T.out.1.step bx) (And.intro (T.out.2.1.step bx) (T.out.2.2.step bx)))); replace OO := hide ((And.intro (OO.out.1.step bx) (And.intro (OO.out.2.1.step bx) (OO.out.2.2.step bx)))); replace B := hide (Below.step B.out B.out.size bx); replace BB := hide (Below.step BB.out BB.out.size bx)))
            all_goals
              generalize wx = w6 at *
              clear R B QQ T
              obtain ⟨-, -, -, -, -, -, ⟨p0, p1⟩, -, -⟩ := P.out
              go_wp2_with fail
              refine (zspoil_ows (B := M.heap.size) OO.out.1 BB.out.size).mono ?_
              rintro e w7 ⟨rfl, bB, hO, hX⟩
              have OO := hide (And.intro (hO _ _ OO.out.2.1 DD.out.1) (hO _ _ OO.out.2.2 DD.out.2.1))
              replace P := hide (And.intro (hX _ _ _ _ _ P.out.2.2.1) (And.intro (hX _ _ _ _ _ P.out.2.2.2.1) (And.intro (hX _ _ _ _ _ P.out.2.2.2.2.2.2.2.1) (hX _ _ _ _ _ P.out.2.2.2.2.2.2.2.2))))
              replace BB := hide (BB.out.trans bB)
              clear bB hO hX p0 p1
              obtain ⟨-, -, ⟨p0, p1⟩, -⟩ := P.out
              go_wp2_with fail
              refine (zspoil_ows (B := M.heap.size) OO.out.1 BB.out.size).mono ?_
              rintro e w8 ⟨rfl, bB, hO, hX⟩
              have OO := hide (hO _ _ OO.out.2 DD.out.2.2)
              replace P := hide (And.intro (hX _ _ _ _ _ P.out.1) (And.intro (hX _ _ _ _ _ P.out.2.1) (hX _ _ _ _ _ P.out.2.2.2)))
              replace BB := hide (BB.out.trans bB)
              clear bB hO hX p0 p1 DD
              obtain ⟨-, -, p0, p1⟩ := P.out
              go_wp2_with fail
              refine (zspoil_ows (B := M.heap.size) OO.out BB.out.size).mono ?_
              rintro e w9 ⟨rfl, bB, hO, hX⟩
              replace P := hide (And.intro (hX _ _ _ _ _ P.out.1) (hX _ _ _ _ _ P.out.2.1))
              replace BB := hide (BB.out.trans bB)
              clear bB hO hX p0 p1 OO
              obtain ⟨⟨p0, p1⟩, -⟩ := P.out
              go_wp2_with fail
              refine (zneg_oa (a := ai) (L := 12) (HA.out _ _ _ _ (RM.out.2.2.1.step BB.out)) (by omega)).mono ?_
              rintro e w10 ⟨s99, A99, n99, c99, rfl, -, ow, bx⟩
              have OO := hide (ow.mono BB.out.size).ows
              replace P := hide (P.out.2.step bx)
              replace BB := hide (Below.step BB.out BB.out.size bx)
              clear ow bx p0 p1
              go_wp2_with fail
              refine (zspoil_ows (B := M.heap.size) OO.out BB.out.size).mono ?_
              rintro e w11 ⟨rfl, bB, hO, hX⟩
              replace P := hide (hX _ _ _ _ _ P.out)
              replace BB := hide (BB.out.trans bB)
              clear bB hO hX OO
              obtain ⟨p0, p1⟩ := P.out
              go_wp2_with fail
              refine (HMB.out _ _ _ _ (RM.out.2.2.2.step BB.out)).mono ?_
              rintro e w12 ⟨s98, A98, n98, c98, rfl, -, ow, bx⟩
              have OO := hide (ow.mono BB.out.size).ows
              replace BB := hide (Below.step BB.out BB.out.size bx)
              clear ow bx p0 p1 P
              go_wp2_with fail
              refine (zspoil_ows (B := M.heap.size) OO.out BB.out.size).mono ?_
              rintro e w13 ⟨rfl, bB, hO, hX⟩
              have bx := BB.out.trans bB
              clear bB hO hX OO BB
              have P := hide (And.intro (PM.out.1.step bx) (And.intro (PM.out.2.1.step bx) (And.intro (PM.out.2.2.1.step bx) (PM.out.2.2.2.1.step bx))))
              have R := hide ((And.intro (RM.out.1.step bx) (And.intro (RM.out.2.1.step bx) (And.intro (RM.out.2.2.1.step bx) (RM.out.2.2.2.step bx)))))
              have B := hide (Below.step BM.out BM.out.size bx)
              clear bx PM RM BM
              obtain ⟨⟨a0, a1⟩, ⟨b0, b1⟩, ⟨x0, x1⟩, y0, y1⟩ := P.out
              go_wp2_with fail
              refine (zsame_l (s := sa) R.out.2.2.1 R.out.1).mono ?_
              rintro e w14 ⟨rfl, bx⟩
              replace P := hide ((And.intro (P.out.1.step bx) (And.intro (P.out.2.1.step bx) (And.intro (P.out.2.2.1.step bx) (P.out.2.2.2.step bx)))))
              replace R := hide ((And.intro (R.out.1.step bx) (And.intro (R.out.2.1.step bx) (And.intro (R.out.2.2.1.step bx) (R.out.2.2.2.step bx)))))
              replace B := hide (Below.step B.out B.out.size bx)
              clear bx a0 a1 b0 b1 x0 x1 y0 y1
              obtain ⟨⟨a0, a1⟩, ⟨b0, b1⟩, ⟨x0, x1⟩, y0, y1⟩ := P.out
              go_wp2_with fail
              refine (zsame_l (s := sb) R.out.2.2.2 R.out.2.1).mono ?_
              rintro e w15 ⟨rfl, bx⟩
              replace B := hide (Below.step B.out B.out.size bx)
              clear bx a0 a1 b0 b1 x0 x1 y0 y1
              go_wp2_with fail
              go_ret
              exact ⟨rfl, B.out⟩
          refine wpAnyH_with 4 #[true, true, true, true, true, true, true, true, true, true, true, false, false, false, false] (fun a W => ∃ (sp : Bool) (Ap : Option Addr) (np cp : Nat) (sq : Bool) (Aq : Option Addr) (nq cq : Nat) (sr : Bool) (Ar : Option Addr) (nr cr : Nat) (l0 : Nat) (l1 : Nat), a = ⟨#[zv sa (.slice Aa na ca), zv sb (.slice Ab nb cb), .pointer (some ⟨w.heap.size, 0, none⟩), .pointer (some ⟨w.heap.size + 1, 0, none⟩), .bool false, .pointer (some ⟨g0, 0, none⟩), .pointer (some ⟨g1, 0, none⟩), .pointer (some ⟨h0, 0, none⟩), .pointer (some ⟨h1, 0, none⟩), .bool true, .pointer (some ⟨l0, 0, none⟩), .pointer (some ⟨l1, 0, none⟩), undef, .bool true, .bool false, zv sa (.slice Aa na ca), zv sb (.slice Ab nb cb), .bool false, zv sa (.slice Aa na ca), zv sa (.slice Ax nx cx), zv sb (.slice Ab nb cb), zv sb (.slice Ay ny cy), zv sa (.slice Aa na ca), zv se (.slice Ae ne ce), zv sb (.slice Ab nb cb), zv sf (.slice Af nf cf), .pointer (some ⟨g0, 0, none⟩), .bool sa, .pointer (some ⟨g0, 1, none⟩), .slice Ax nx cx, zv s30 (.slice A30 n30 c30), zv se (.slice Ae ne ce), v32, .bool true, .bool true, zv sa (.slice Ax nx cx), zv s36 (.slice A36 n36 c36), zv se (.slice Ae ne ce), v38, v39, .bool true, .bool true, .bool true, zv sa (.slice Ax nx cx), .int .i64 (zsg ai), zv se (.slice Ae ne ce), .int .i64 (zsg ai), .bool true, .bool true, .bool true, zv sa (.slice Ax nx cx), zv sb (.slice Ay ny cy), .int .i64 (cmpZ ai bi), zv se (.slice Ae ne ce), zv sf (.slice Af nf cf), .int .i64 (cmpZ ai bi), .bool true, .bool true, zv sa (.slice Ax nx cx), zv sb (.slice Ay ny cy), zv sp (.slice Ap np cp), zv sa (.slice Ax nx cx), zv sb (.slice Ay ny cy), zv sq (.slice Aq nq cq), zv sa (.slice Ax nx cx), zv sb (.slice Ay ny cy), zv sr (.slice Ar nr cr), undef, undef, undef, undef, undef, undef, undef, undef, undef, undef, undef, undef, undef, undef, undef, undef, undef, undef, undef, undef, undef, undef, undef, undef, undef, undef, undef, undef, undef, undef, undef, undef, undef, undef, undef, undef, undef, undef, undef, undef, undef, undef, undef, undef, undef, undef, undef, undef, undef, undef, undef], []⟩ ∧ Sg M.drew.heap.size M.drew W [zblk, zblk, zblk] [some l0, some l1, none] (fun W => (((True ∧ (Zi W (zv sp (.slice Ap np cp)) (ai + bi) (12 + 1) ∧ Ows W M.heap.size (.slice Ap np cp) (cn Q (ai + bi).natAbs))) ∧ (Zi W (zv sq (.slice Aq nq cq)) (ai - bi) (12 + 1) ∧ (Ows W M.heap.size (.slice Aq nq cq) (cn Q (ai - bi).natAbs) ∧ Dj (cn Q (ai + bi).natAbs) (.slice Ap np cp) (.slice Aq nq cq)))) ∧ (Zi W (zv sr (.slice Ar nr cr)) (ai * bi) (24) ∧ (Ows W M.heap.size (.slice Ar nr cr) (cn Q (ai * bi).natAbs) ∧ (Dj (cn Q (ai + bi).natAbs) (.slice Ap np cp) (.slice Ar nr cr) ∧ Dj (cn Q (ai - bi).natAbs) (.slice Aq nq cq) (.slice Ar nr cr))))))) ?_ (fun Hs3110 => ?_)
          · rintro a W ⟨sp, Ap, np, cp, sq, Aq, nq, cq, sr, Ar, nr, cr, l0, l1, rfl, st0⟩
            have hHeld := st0.1
            have st := hide st0
            clear st0
            refine wpAnyH_ready (rs := [11]) (by kernel_rfl) (by simp) ?_
            refine AllReadyH.cons rfl (fun K hK => ?_) ?_
            · go_simp
              have st2 := Sg.make st.out (Firm2.and (Firm2.and (Firm2.and Firm2.yes (Firm2.and (Firm2.zi _ _ _) (Firm2.ows _ _ _))) (Firm2.and (Firm2.zi _ _ _) (Firm2.and (Firm2.ows _ _ _) (Firm2.any _)))) (Firm2.and (Firm2.zi _ _ _) (Firm2.and (Firm2.ows _ _ _) (Firm2.and (Firm2.any _) (Firm2.any _))))) 2 _ rfl (by simp)
              refine hK.out _ _ st2.1 (fun hHeld => ?_)
              (try simp only [Act.put, List.setIfInBounds_toArray, List.set_cons_zero, List.set_cons_succ])
              exact Hs3111.out _ _ ⟨sp, Ap, np, cp, sq, Aq, nq, cq, sr, Ar, nr, cr, l0, l1, W.heap.size, rfl, st2⟩
            exact AllReadyH.nil
          refine wpAnyH_with 4 #[true, true, true, true, true, true, true, true, true, true, false, true, false, false, false] (fun a W => ∃ (sp : Bool) (Ap : Option Addr) (np cp : Nat) (sq : Bool) (Aq : Option Addr) (nq cq : Nat) (sr : Bool) (Ar : Option Addr) (nr cr : Nat) (l0 : Nat) (l2 : Nat), a = ⟨#[zv sa (.slice Aa na ca), zv sb (.slice Ab nb cb), .pointer (some ⟨w.heap.size, 0, none⟩), .pointer (some ⟨w.heap.size + 1, 0, none⟩), .bool false, .pointer (some ⟨g0, 0, none⟩), .pointer (some ⟨g1, 0, none⟩), .pointer (some ⟨h0, 0, none⟩), .pointer (some ⟨h1, 0, none⟩), .bool true, .pointer (some ⟨l0, 0, none⟩), undef, .pointer (some ⟨l2, 0, none⟩), .bool true, .bool false, zv sa (.slice Aa na ca), zv sb (.slice Ab nb cb), .bool false, zv sa (.slice Aa na ca), zv sa (.slice Ax nx cx), zv sb (.slice Ab nb cb), zv sb (.slice Ay ny cy), zv sa (.slice Aa na ca), zv se (.slice Ae ne ce), zv sb (.slice Ab nb cb), zv sf (.slice Af nf cf), .pointer (some ⟨g0, 0, none⟩), .bool sa, .pointer (some ⟨g0, 1, none⟩), .slice Ax nx cx, zv s30 (.slice A30 n30 c30), zv se (.slice Ae ne ce), v32, .bool true, .bool true, zv sa (.slice Ax nx cx), zv s36 (.slice A36 n36 c36), zv se (.slice Ae ne ce), v38, v39, .bool true, .bool true, .bool true, zv sa (.slice Ax nx cx), .int .i64 (zsg ai), zv se (.slice Ae ne ce), .int .i64 (zsg ai), .bool true, .bool true, .bool true, zv sa (.slice Ax nx cx), zv sb (.slice Ay ny cy), .int .i64 (cmpZ ai bi), zv se (.slice Ae ne ce), zv sf (.slice Af nf cf), .int .i64 (cmpZ ai bi), .bool true, .bool true, zv sa (.slice Ax nx cx), zv sb (.slice Ay ny cy), zv sp (.slice Ap np cp), zv sa (.slice Ax nx cx), zv sb (.slice Ay ny cy), zv sq (.slice Aq nq cq), zv sa (.slice Ax nx cx), zv sb (.slice Ay ny cy), zv sr (.slice Ar nr cr), undef, undef, undef, undef, undef, undef, undef, undef, undef, undef, undef, undef, undef, undef, undef, undef, undef, undef, undef, undef, undef, undef, undef, undef, undef, undef, undef, undef, undef, undef, undef, undef, undef, undef, undef, undef, undef, undef, undef, undef, undef, undef, undef, undef, undef, undef, undef, undef, undef, undef, undef], []⟩ ∧ Sg M.drew.heap.size M.drew W [zblk, zblk, zblk] [some l0, none, some l2] (fun W => (((True ∧ (Zi W (zv sp (.slice Ap np cp)) (ai + bi) (12 + 1) ∧ Ows W M.heap.size (.slice Ap np cp) (cn Q (ai + bi).natAbs))) ∧ (Zi W (zv sq (.slice Aq nq cq)) (ai - bi) (12 + 1) ∧ (Ows W M.heap.size (.slice Aq nq cq) (cn Q (ai - bi).natAbs) ∧ Dj (cn Q (ai + bi).natAbs) (.slice Ap np cp) (.slice Aq nq cq)))) ∧ (Zi W (zv sr (.slice Ar nr cr)) (ai * bi) (24) ∧ (Ows W M.heap.size (.slice Ar nr cr) (cn Q (ai * bi).natAbs) ∧ (Dj (cn Q (ai + bi).natAbs) (.slice Ap np cp) (.slice Ar nr cr) ∧ Dj (cn Q (ai - bi).natAbs) (.slice Aq nq cq) (.slice Ar nr cr))))))) ?_ (fun Hs3101 => ?_)
          · rintro a W ⟨sp, Ap, np, cp, sq, Aq, nq, cq, sr, Ar, nr, cr, l0, l2, rfl, st0⟩
            have hHeld := st0.1
            have st := hide st0
            clear st0
            refine wpAnyH_ready (rs := [10]) (by kernel_rfl) (by simp) ?_
            refine AllReadyH.cons rfl (fun K hK => ?_) ?_
            · go_simp
              have st2 := Sg.make st.out (Firm2.and (Firm2.and (Firm2.and Firm2.yes (Firm2.and (Firm2.zi _ _ _) (Firm2.ows _ _ _))) (Firm2.and (Firm2.zi _ _ _) (Firm2.and (Firm2.ows _ _ _) (Firm2.any _)))) (Firm2.and (Firm2.zi _ _ _) (Firm2.and (Firm2.ows _ _ _) (Firm2.and (Firm2.any _) (Firm2.any _))))) 1 _ rfl (by simp)
              refine hK.out _ _ st2.1 (fun hHeld => ?_)
              (try simp only [Act.put, List.setIfInBounds_toArray, List.set_cons_zero, List.set_cons_succ])
              exact Hs3111.out _ _ ⟨sp, Ap, np, cp, sq, Aq, nq, cq, sr, Ar, nr, cr, l0, W.heap.size, l2, rfl, st2⟩
            exact AllReadyH.nil
          refine wpAnyH_with 5 #[true, true, true, true, true, true, true, true, true, true, false, false, false, false, false] (fun a W => ∃ (sp : Bool) (Ap : Option Addr) (np cp : Nat) (sq : Bool) (Aq : Option Addr) (nq cq : Nat) (sr : Bool) (Ar : Option Addr) (nr cr : Nat) (l0 : Nat), a = ⟨#[zv sa (.slice Aa na ca), zv sb (.slice Ab nb cb), .pointer (some ⟨w.heap.size, 0, none⟩), .pointer (some ⟨w.heap.size + 1, 0, none⟩), .bool false, .pointer (some ⟨g0, 0, none⟩), .pointer (some ⟨g1, 0, none⟩), .pointer (some ⟨h0, 0, none⟩), .pointer (some ⟨h1, 0, none⟩), .bool true, .pointer (some ⟨l0, 0, none⟩), undef, undef, .bool true, .bool false, zv sa (.slice Aa na ca), zv sb (.slice Ab nb cb), .bool false, zv sa (.slice Aa na ca), zv sa (.slice Ax nx cx), zv sb (.slice Ab nb cb), zv sb (.slice Ay ny cy), zv sa (.slice Aa na ca), zv se (.slice Ae ne ce), zv sb (.slice Ab nb cb), zv sf (.slice Af nf cf), .pointer (some ⟨g0, 0, none⟩), .bool sa, .pointer (some ⟨g0, 1, none⟩), .slice Ax nx cx, zv s30 (.slice A30 n30 c30), zv se (.slice Ae ne ce), v32, .bool true, .bool true, zv sa (.slice Ax nx cx), zv s36 (.slice A36 n36 c36), zv se (.slice Ae ne ce), v38, v39, .bool true, .bool true, .bool true, zv sa (.slice Ax nx cx), .int .i64 (zsg ai), zv se (.slice Ae ne ce), .int .i64 (zsg ai), .bool true, .bool true, .bool true, zv sa (.slice Ax nx cx), zv sb (.slice Ay ny cy), .int .i64 (cmpZ ai bi), zv se (.slice Ae ne ce), zv sf (.slice Af nf cf), .int .i64 (cmpZ ai bi), .bool true, .bool true, zv sa (.slice Ax nx cx), zv sb (.slice Ay ny cy), zv sp (.slice Ap np cp), zv sa (.slice Ax nx cx), zv sb (.slice Ay ny cy), zv sq (.slice Aq nq cq), zv sa (.slice Ax nx cx), zv sb (.slice Ay ny cy), zv sr (.slice Ar nr cr), undef, undef, undef, undef, undef, undef, undef, undef, undef, undef, undef, undef, undef, undef, undef, undef, undef, undef, undef, undef, undef, undef, undef, undef, undef, undef, undef, undef, undef, undef, undef, undef, undef, undef, undef, undef, undef, undef, undef, undef, undef, undef, undef, undef, undef, undef, undef, undef, undef, undef, undef], []⟩ ∧ Sg M.drew.heap.size M.drew W [zblk, zblk, zblk] [some l0, none, none] (fun W => (((True ∧ (Zi W (zv sp (.slice Ap np cp)) (ai + bi) (12 + 1) ∧ Ows W M.heap.size (.slice Ap np cp) (cn Q (ai + bi).natAbs))) ∧ (Zi W (zv sq (.slice Aq nq cq)) (ai - bi) (12 + 1) ∧ (Ows W M.heap.size (.slice Aq nq cq) (cn Q (ai - bi).natAbs) ∧ Dj (cn Q (ai + bi).natAbs) (.slice Ap np cp) (.slice Aq nq cq)))) ∧ (Zi W (zv sr (.slice Ar nr cr)) (ai * bi) (24) ∧ (Ows W M.heap.size (.slice Ar nr cr) (cn Q (ai * bi).natAbs) ∧ (Dj (cn Q (ai + bi).natAbs) (.slice Ap np cp) (.slice Ar nr cr) ∧ Dj (cn Q (ai - bi).natAbs) (.slice Aq nq cq) (.slice Ar nr cr))))))) ?_ (fun Hs3100 => ?_)
          · rintro a W ⟨sp, Ap, np, cp, sq, Aq, nq, cq, sr, Ar, nr, cr, l0, rfl, st0⟩
            have hHeld := st0.1
            have st := hide st0
            clear st0
            refine wpAnyH_ready (rs := [10, 11]) (by kernel_rfl) (by simp) ?_
            refine AllReadyH.cons rfl (fun K hK => ?_) ?_
            · go_simp
              have st2 := Sg.make st.out (Firm2.and (Firm2.and (Firm2.and Firm2.yes (Firm2.and (Firm2.zi _ _ _) (Firm2.ows _ _ _))) (Firm2.and (Firm2.zi _ _ _) (Firm2.and (Firm2.ows _ _ _) (Firm2.any _)))) (Firm2.and (Firm2.zi _ _ _) (Firm2.and (Firm2.ows _ _ _) (Firm2.and (Firm2.any _) (Firm2.any _))))) 1 _ rfl (by simp)
              refine hK.out _ _ st2.1 (fun hHeld => ?_)
              (try simp only [Act.put, List.setIfInBounds_toArray, List.set_cons_zero, List.set_cons_succ])
              exact Hs3110.out _ _ ⟨sp, Ap, np, cp, sq, Aq, nq, cq, sr, Ar, nr, cr, l0, W.heap.size, rfl, st2⟩
            refine AllReadyH.cons rfl (fun K hK => ?_) ?_
            · go_simp
              have st2 := Sg.make st.out (Firm2.and (Firm2.and (Firm2.and Firm2.yes (Firm2.and (Firm2.zi _ _ _) (Firm2.ows _ _ _))) (Firm2.and (Firm2.zi _ _ _) (Firm2.and (Firm2.ows _ _ _) (Firm2.any _)))) (Firm2.and (Firm2.zi _ _ _) (Firm2.and (Firm2.ows _ _ _) (Firm2.and (Firm2.any _) (Firm2.any _))))) 2 _ rfl (by simp)
              refine hK.out _ _ st2.1 (fun hHeld => ?_)
              (try simp only [Act.put, List.setIfInBounds_toArray, List.set_cons_zero, List.set_cons_succ])
              exact Hs3101.out _ _ ⟨sp, Ap, np, cp, sq, Aq, nq, cq, sr, Ar, nr, cr, l0, W.heap.size, rfl, st2⟩
            exact AllReadyH.nil
          refine wpAnyH_with 4 #[true, true, true, true, true, true, true, true, true, false, true, true, false, false, false] (fun a W => ∃ (sp : Bool) (Ap : Option Addr) (np cp : Nat) (sq : Bool) (Aq : Option Addr) (nq cq : Nat) (sr : Bool) (Ar : Option Addr) (nr cr : Nat) (l1 : Nat) (l2 : Nat), a = ⟨#[zv sa (.slice Aa na ca), zv sb (.slice Ab nb cb), .pointer (some ⟨w.heap.size, 0, none⟩), .pointer (some ⟨w.heap.size + 1, 0, none⟩), .bool false, .pointer (some ⟨g0, 0, none⟩), .pointer (some ⟨g1, 0, none⟩), .pointer (some ⟨h0, 0, none⟩), .pointer (some ⟨h1, 0, none⟩), .bool true, undef, .pointer (some ⟨l1, 0, none⟩), .pointer (some ⟨l2, 0, none⟩), .bool true, .bool false, zv sa (.slice Aa na ca), zv sb (.slice Ab nb cb), .bool false, zv sa (.slice Aa na ca), zv sa (.slice Ax nx cx), zv sb (.slice Ab nb cb), zv sb (.slice Ay ny cy), zv sa (.slice Aa na ca), zv se (.slice Ae ne ce), zv sb (.slice Ab nb cb), zv sf (.slice Af nf cf), .pointer (some ⟨g0, 0, none⟩), .bool sa, .pointer (some ⟨g0, 1, none⟩), .slice Ax nx cx, zv s30 (.slice A30 n30 c30), zv se (.slice Ae ne ce), v32, .bool true, .bool true, zv sa (.slice Ax nx cx), zv s36 (.slice A36 n36 c36), zv se (.slice Ae ne ce), v38, v39, .bool true, .bool true, .bool true, zv sa (.slice Ax nx cx), .int .i64 (zsg ai), zv se (.slice Ae ne ce), .int .i64 (zsg ai), .bool true, .bool true, .bool true, zv sa (.slice Ax nx cx), zv sb (.slice Ay ny cy), .int .i64 (cmpZ ai bi), zv se (.slice Ae ne ce), zv sf (.slice Af nf cf), .int .i64 (cmpZ ai bi), .bool true, .bool true, zv sa (.slice Ax nx cx), zv sb (.slice Ay ny cy), zv sp (.slice Ap np cp), zv sa (.slice Ax nx cx), zv sb (.slice Ay ny cy), zv sq (.slice Aq nq cq), zv sa (.slice Ax nx cx), zv sb (.slice Ay ny cy), zv sr (.slice Ar nr cr), undef, undef, undef, undef, undef, undef, undef, undef, undef, undef, undef, undef, undef, undef, undef, undef, undef, undef, undef, undef, undef, undef, undef, undef, undef, undef, undef, undef, undef, undef, undef, undef, undef, undef, undef, undef, undef, undef, undef, undef, undef, undef, undef, undef, undef, undef, undef, undef, undef, undef, undef], []⟩ ∧ Sg M.drew.heap.size M.drew W [zblk, zblk, zblk] [none, some l1, some l2] (fun W => (((True ∧ (Zi W (zv sp (.slice Ap np cp)) (ai + bi) (12 + 1) ∧ Ows W M.heap.size (.slice Ap np cp) (cn Q (ai + bi).natAbs))) ∧ (Zi W (zv sq (.slice Aq nq cq)) (ai - bi) (12 + 1) ∧ (Ows W M.heap.size (.slice Aq nq cq) (cn Q (ai - bi).natAbs) ∧ Dj (cn Q (ai + bi).natAbs) (.slice Ap np cp) (.slice Aq nq cq)))) ∧ (Zi W (zv sr (.slice Ar nr cr)) (ai * bi) (24) ∧ (Ows W M.heap.size (.slice Ar nr cr) (cn Q (ai * bi).natAbs) ∧ (Dj (cn Q (ai + bi).natAbs) (.slice Ap np cp) (.slice Ar nr cr) ∧ Dj (cn Q (ai - bi).natAbs) (.slice Aq nq cq) (.slice Ar nr cr))))))) ?_ (fun Hs3011 => ?_)
          · rintro a W ⟨sp, Ap, np, cp, sq, Aq, nq, cq, sr, Ar, nr, cr, l1, l2, rfl, st0⟩
            have hHeld := st0.1
            have st := hide st0
            clear st0
            refine wpAnyH_ready (rs := [9]) (by kernel_rfl) (by simp) ?_
            refine AllReadyH.cons rfl (fun K hK => ?_) ?_
            · go_simp
              have st2 := Sg.make st.out (Firm2.and (Firm2.and (Firm2.and Firm2.yes (Firm2.and (Firm2.zi _ _ _) (Firm2.ows _ _ _))) (Firm2.and (Firm2.zi _ _ _) (Firm2.and (Firm2.ows _ _ _) (Firm2.any _)))) (Firm2.and (Firm2.zi _ _ _) (Firm2.and (Firm2.ows _ _ _) (Firm2.and (Firm2.any _) (Firm2.any _))))) 0 _ rfl (by simp)
              refine hK.out _ _ st2.1 (fun hHeld => ?_)
              (try simp only [Act.put, List.setIfInBounds_toArray, List.set_cons_zero, List.set_cons_succ])
              exact Hs3111.out _ _ ⟨sp, Ap, np, cp, sq, Aq, nq, cq, sr, Ar, nr, cr, W.heap.size, l1, l2, rfl, st2⟩
            exact AllReadyH.nil
          refine wpAnyH_with 5 #[true, true, true, true, true, true, true, true, true, false, true, false, false, false, false] (fun a W => ∃ (sp : Bool) (Ap : Option Addr) (np cp : Nat) (sq : Bool) (Aq : Option Addr) (nq cq : Nat) (sr : Bool) (Ar : Option Addr) (nr cr : Nat) (l1 : Nat), a = ⟨#[zv sa (.slice Aa na ca), zv sb (.slice Ab nb cb), .pointer (some ⟨w.heap.size, 0, none⟩), .pointer (some ⟨w.heap.size + 1, 0, none⟩), .bool false, .pointer (some ⟨g0, 0, none⟩), .pointer (some ⟨g1, 0, none⟩), .pointer (some ⟨h0, 0, none⟩), .pointer (some ⟨h1, 0, none⟩), .bool true, undef, .pointer (some ⟨l1, 0, none⟩), undef, .bool true, .bool false, zv sa (.slice Aa na ca), zv sb (.slice Ab nb cb), .bool false, zv sa (.slice Aa na ca), zv sa (.slice Ax nx cx), zv sb (.slice Ab nb cb), zv sb (.slice Ay ny cy), zv sa (.slice Aa na ca), zv se (.slice Ae ne ce), zv sb (.slice Ab nb cb), zv sf (.slice Af nf cf), .pointer (some ⟨g0, 0, none⟩), .bool sa, .pointer (some ⟨g0, 1, none⟩), .slice Ax nx cx, zv s30 (.slice A30 n30 c30), zv se (.slice Ae ne ce), v32, .bool true, .bool true, zv sa (.slice Ax nx cx), zv s36 (.slice A36 n36 c36), zv se (.slice Ae ne ce), v38, v39, .bool true, .bool true, .bool true, zv sa (.slice Ax nx cx), .int .i64 (zsg ai), zv se (.slice Ae ne ce), .int .i64 (zsg ai), .bool true, .bool true, .bool true, zv sa (.slice Ax nx cx), zv sb (.slice Ay ny cy), .int .i64 (cmpZ ai bi), zv se (.slice Ae ne ce), zv sf (.slice Af nf cf), .int .i64 (cmpZ ai bi), .bool true, .bool true, zv sa (.slice Ax nx cx), zv sb (.slice Ay ny cy), zv sp (.slice Ap np cp), zv sa (.slice Ax nx cx), zv sb (.slice Ay ny cy), zv sq (.slice Aq nq cq), zv sa (.slice Ax nx cx), zv sb (.slice Ay ny cy), zv sr (.slice Ar nr cr), undef, undef, undef, undef, undef, undef, undef, undef, undef, undef, undef, undef, undef, undef, undef, undef, undef, undef, undef, undef, undef, undef, undef, undef, undef, undef, undef, undef, undef, undef, undef, undef, undef, undef, undef, undef, undef, undef, undef, undef, undef, undef, undef, undef, undef, undef, undef, undef, undef, undef, undef], []⟩ ∧ Sg M.drew.heap.size M.drew W [zblk, zblk, zblk] [none, some l1, none] (fun W => (((True ∧ (Zi W (zv sp (.slice Ap np cp)) (ai + bi) (12 + 1) ∧ Ows W M.heap.size (.slice Ap np cp) (cn Q (ai + bi).natAbs))) ∧ (Zi W (zv sq (.slice Aq nq cq)) (ai - bi) (12 + 1) ∧ (Ows W M.heap.size (.slice Aq nq cq) (cn Q (ai - bi).natAbs) ∧ Dj (cn Q (ai + bi).natAbs) (.slice Ap np cp) (.slice Aq nq cq)))) ∧ (Zi W (zv sr (.slice Ar nr cr)) (ai * bi) (24) ∧ (Ows W M.heap.size (.slice Ar nr cr) (cn Q (ai * bi).natAbs) ∧ (Dj (cn Q (ai + bi).natAbs) (.slice Ap np cp) (.slice Ar nr cr) ∧ Dj (cn Q (ai - bi).natAbs) (.slice Aq nq cq) (.slice Ar nr cr))))))) ?_ (fun Hs3010 => ?_)
          · rintro a W ⟨sp, Ap, np, cp, sq, Aq, nq, cq, sr, Ar, nr, cr, l1, rfl, st0⟩
            have hHeld := st0.1
            have st := hide st0
            clear st0
            refine wpAnyH_ready (rs := [9, 11]) (by kernel_rfl) (by simp) ?_
            refine AllReadyH.cons rfl (fun K hK => ?_) ?_
            · go_simp
              have st2 := Sg.make st.out (Firm2.and (Firm2.and (Firm2.and Firm2.yes (Firm2.and (Firm2.zi _ _ _) (Firm2.ows _ _ _))) (Firm2.and (Firm2.zi _ _ _) (Firm2.and (Firm2.ows _ _ _) (Firm2.any _)))) (Firm2.and (Firm2.zi _ _ _) (Firm2.and (Firm2.ows _ _ _) (Firm2.and (Firm2.any _) (Firm2.any _))))) 0 _ rfl (by simp)
              refine hK.out _ _ st2.1 (fun hHeld => ?_)
              (try simp only [Act.put, List.setIfInBounds_toArray, List.set_cons_zero, List.set_cons_succ])
              exact Hs3110.out _ _ ⟨sp, Ap, np, cp, sq, Aq, nq, cq, sr, Ar, nr, cr, W.heap.size, l1, rfl, st2⟩
            refine AllReadyH.cons rfl (fun K hK => ?_) ?_
            · go_simp
              have st2 := Sg.make st.out (Firm2.and (Firm2.and (Firm2.and Firm2.yes (Firm2.and (Firm2.zi _ _ _) (Firm2.ows _ _ _))) (Firm2.and (Firm2.zi _ _ _) (Firm2.and (Firm2.ows _ _ _) (Firm2.any _)))) (Firm2.and (Firm2.zi _ _ _) (Firm2.and (Firm2.ows _ _ _) (Firm2.and (Firm2.any _) (Firm2.any _))))) 2 _ rfl (by simp)
              refine hK.out _ _ st2.1 (fun hHeld => ?_)
              (try simp only [Act.put, List.setIfInBounds_toArray, List.set_cons_zero, List.set_cons_succ])
              exact Hs3011.out _ _ ⟨sp, Ap, np, cp, sq, Aq, nq, cq, sr, Ar, nr, cr, l1, W.heap.size, rfl, st2⟩
            exact AllReadyH.nil
          refine wpAnyH_with 5 #[true, true, true, true, true, true, true, true, true, false, false, true, false, false, false] (fun a W => ∃ (sp : Bool) (Ap : Option Addr) (np cp : Nat) (sq : Bool) (Aq : Option Addr) (nq cq : Nat) (sr : Bool) (Ar : Option Addr) (nr cr : Nat) (l2 : Nat), a = ⟨#[zv sa (.slice Aa na ca), zv sb (.slice Ab nb cb), .pointer (some ⟨w.heap.size, 0, none⟩), .pointer (some ⟨w.heap.size + 1, 0, none⟩), .bool false, .pointer (some ⟨g0, 0, none⟩), .pointer (some ⟨g1, 0, none⟩), .pointer (some ⟨h0, 0, none⟩), .pointer (some ⟨h1, 0, none⟩), .bool true, undef, undef, .pointer (some ⟨l2, 0, none⟩), .bool true, .bool false, zv sa (.slice Aa na ca), zv sb (.slice Ab nb cb), .bool false, zv sa (.slice Aa na ca), zv sa (.slice Ax nx cx), zv sb (.slice Ab nb cb), zv sb (.slice Ay ny cy), zv sa (.slice Aa na ca), zv se (.slice Ae ne ce), zv sb (.slice Ab nb cb), zv sf (.slice Af nf cf), .pointer (some ⟨g0, 0, none⟩), .bool sa, .pointer (some ⟨g0, 1, none⟩), .slice Ax nx cx, zv s30 (.slice A30 n30 c30), zv se (.slice Ae ne ce), v32, .bool true, .bool true, zv sa (.slice Ax nx cx), zv s36 (.slice A36 n36 c36), zv se (.slice Ae ne ce), v38, v39, .bool true, .bool true, .bool true, zv sa (.slice Ax nx cx), .int .i64 (zsg ai), zv se (.slice Ae ne ce), .int .i64 (zsg ai), .bool true, .bool true, .bool true, zv sa (.slice Ax nx cx), zv sb (.slice Ay ny cy), .int .i64 (cmpZ ai bi), zv se (.slice Ae ne ce), zv sf (.slice Af nf cf), .int .i64 (cmpZ ai bi), .bool true, .bool true, zv sa (.slice Ax nx cx), zv sb (.slice Ay ny cy), zv sp (.slice Ap np cp), zv sa (.slice Ax nx cx), zv sb (.slice Ay ny cy), zv sq (.slice Aq nq cq), zv sa (.slice Ax nx cx), zv sb (.slice Ay ny cy), zv sr (.slice Ar nr cr), undef, undef, undef, undef, undef, undef, undef, undef, undef, undef, undef, undef, undef, undef, undef, undef, undef, undef, undef, undef, undef, undef, undef, undef, undef, undef, undef, undef, undef, undef, undef, undef, undef, undef, undef, undef, undef, undef, undef, undef, undef, undef, undef, undef, undef, undef, undef, undef, undef, undef, undef], []⟩ ∧ Sg M.drew.heap.size M.drew W [zblk, zblk, zblk] [none, none, some l2] (fun W => (((True ∧ (Zi W (zv sp (.slice Ap np cp)) (ai + bi) (12 + 1) ∧ Ows W M.heap.size (.slice Ap np cp) (cn Q (ai + bi).natAbs))) ∧ (Zi W (zv sq (.slice Aq nq cq)) (ai - bi) (12 + 1) ∧ (Ows W M.heap.size (.slice Aq nq cq) (cn Q (ai - bi).natAbs) ∧ Dj (cn Q (ai + bi).natAbs) (.slice Ap np cp) (.slice Aq nq cq)))) ∧ (Zi W (zv sr (.slice Ar nr cr)) (ai * bi) (24) ∧ (Ows W M.heap.size (.slice Ar nr cr) (cn Q (ai * bi).natAbs) ∧ (Dj (cn Q (ai + bi).natAbs) (.slice Ap np cp) (.slice Ar nr cr) ∧ Dj (cn Q (ai - bi).natAbs) (.slice Aq nq cq) (.slice Ar nr cr))))))) ?_ (fun Hs3001 => ?_)
          · rintro a W ⟨sp, Ap, np, cp, sq, Aq, nq, cq, sr, Ar, nr, cr, l2, rfl, st0⟩
            have hHeld := st0.1
            have st := hide st0
            clear st0
            refine wpAnyH_ready (rs := [9, 10]) (by kernel_rfl) (by simp) ?_
            refine AllReadyH.cons rfl (fun K hK => ?_) ?_
            · go_simp
              have st2 := Sg.make st.out (Firm2.and (Firm2.and (Firm2.and Firm2.yes (Firm2.and (Firm2.zi _ _ _) (Firm2.ows _ _ _))) (Firm2.and (Firm2.zi _ _ _) (Firm2.and (Firm2.ows _ _ _) (Firm2.any _)))) (Firm2.and (Firm2.zi _ _ _) (Firm2.and (Firm2.ows _ _ _) (Firm2.and (Firm2.any _) (Firm2.any _))))) 0 _ rfl (by simp)
              refine hK.out _ _ st2.1 (fun hHeld => ?_)
              (try simp only [Act.put, List.setIfInBounds_toArray, List.set_cons_zero, List.set_cons_succ])
              exact Hs3101.out _ _ ⟨sp, Ap, np, cp, sq, Aq, nq, cq, sr, Ar, nr, cr, W.heap.size, l2, rfl, st2⟩
            refine AllReadyH.cons rfl (fun K hK => ?_) ?_
            · go_simp
              have st2 := Sg.make st.out (Firm2.and (Firm2.and (Firm2.and Firm2.yes (Firm2.and (Firm2.zi _ _ _) (Firm2.ows _ _ _))) (Firm2.and (Firm2.zi _ _ _) (Firm2.and (Firm2.ows _ _ _) (Firm2.any _)))) (Firm2.and (Firm2.zi _ _ _) (Firm2.and (Firm2.ows _ _ _) (Firm2.and (Firm2.any _) (Firm2.any _))))) 1 _ rfl (by simp)
              refine hK.out _ _ st2.1 (fun hHeld => ?_)
              (try simp only [Act.put, List.setIfInBounds_toArray, List.set_cons_zero, List.set_cons_succ])
              exact Hs3011.out _ _ ⟨sp, Ap, np, cp, sq, Aq, nq, cq, sr, Ar, nr, cr, W.heap.size, l2, rfl, st2⟩
            exact AllReadyH.nil
          refine wpAnyH_with 6 #[true, true, true, true, true, true, true, true, true, false, false, false, false, false, false] (fun a W => ∃ (sp : Bool) (Ap : Option Addr) (np cp : Nat) (sq : Bool) (Aq : Option Addr) (nq cq : Nat) (sr : Bool) (Ar : Option Addr) (nr cr : Nat), a = ⟨#[zv sa (.slice Aa na ca), zv sb (.slice Ab nb cb), .pointer (some ⟨w.heap.size, 0, none⟩), .pointer (some ⟨w.heap.size + 1, 0, none⟩), .bool false, .pointer (some ⟨g0, 0, none⟩), .pointer (some ⟨g1, 0, none⟩), .pointer (some ⟨h0, 0, none⟩), .pointer (some ⟨h1, 0, none⟩), .bool true, undef, undef, undef, .bool true, .bool false, zv sa (.slice Aa na ca), zv sb (.slice Ab nb cb), .bool false, zv sa (.slice Aa na ca), zv sa (.slice Ax nx cx), zv sb (.slice Ab nb cb), zv sb (.slice Ay ny cy), zv sa (.slice Aa na ca), zv se (.slice Ae ne ce), zv sb (.slice Ab nb cb), zv sf (.slice Af nf cf), .pointer (some ⟨g0, 0, none⟩), .bool sa, .pointer (some ⟨g0, 1, none⟩), .slice Ax nx cx, zv s30 (.slice A30 n30 c30), zv se (.slice Ae ne ce), v32, .bool true, .bool true, zv sa (.slice Ax nx cx), zv s36 (.slice A36 n36 c36), zv se (.slice Ae ne ce), v38, v39, .bool true, .bool true, .bool true, zv sa (.slice Ax nx cx), .int .i64 (zsg ai), zv se (.slice Ae ne ce), .int .i64 (zsg ai), .bool true, .bool true, .bool true, zv sa (.slice Ax nx cx), zv sb (.slice Ay ny cy), .int .i64 (cmpZ ai bi), zv se (.slice Ae ne ce), zv sf (.slice Af nf cf), .int .i64 (cmpZ ai bi), .bool true, .bool true, zv sa (.slice Ax nx cx), zv sb (.slice Ay ny cy), zv sp (.slice Ap np cp), zv sa (.slice Ax nx cx), zv sb (.slice Ay ny cy), zv sq (.slice Aq nq cq), zv sa (.slice Ax nx cx), zv sb (.slice Ay ny cy), zv sr (.slice Ar nr cr), undef, undef, undef, undef, undef, undef, undef, undef, undef, undef, undef, undef, undef, undef, undef, undef, undef, undef, undef, undef, undef, undef, undef, undef, undef, undef, undef, undef, undef, undef, undef, undef, undef, undef, undef, undef, undef, undef, undef, undef, undef, undef, undef, undef, undef, undef, undef, undef, undef, undef, undef], []⟩ ∧ Sg M.drew.heap.size M.drew W [zblk, zblk, zblk] [none, none, none] (fun W => (((True ∧ (Zi W (zv sp (.slice Ap np cp)) (ai + bi) (12 + 1) ∧ Ows W M.heap.size (.slice Ap np cp) (cn Q (ai + bi).natAbs))) ∧ (Zi W (zv sq (.slice Aq nq cq)) (ai - bi) (12 + 1) ∧ (Ows W M.heap.size (.slice Aq nq cq) (cn Q (ai - bi).natAbs) ∧ Dj (cn Q (ai + bi).natAbs) (.slice Ap np cp) (.slice Aq nq cq)))) ∧ (Zi W (zv sr (.slice Ar nr cr)) (ai * bi) (24) ∧ (Ows W M.heap.size (.slice Ar nr cr) (cn Q (ai * bi).natAbs) ∧ (Dj (cn Q (ai + bi).natAbs) (.slice Ap np cp) (.slice Ar nr cr) ∧ Dj (cn Q (ai - bi).natAbs) (.slice Aq nq cq) (.slice Ar nr cr))))))) ?_ (fun Hs3000 => ?_)
          · rintro a W ⟨sp, Ap, np, cp, sq, Aq, nq, cq, sr, Ar, nr, cr, rfl, st0⟩
            have hHeld := st0.1
            have st := hide st0
            clear st0
            refine wpAnyH_ready (rs := [9, 10, 11]) (by kernel_rfl) (by simp) ?_
            refine AllReadyH.cons rfl (fun K hK => ?_) ?_
            · go_simp
              have st2 := Sg.make st.out (Firm2.and (Firm2.and (Firm2.and Firm2.yes (Firm2.and (Firm2.zi _ _ _) (Firm2.ows _ _ _))) (Firm2.and (Firm2.zi _ _ _) (Firm2.and (Firm2.ows _ _ _) (Firm2.any _)))) (Firm2.and (Firm2.zi _ _ _) (Firm2.and (Firm2.ows _ _ _) (Firm2.and (Firm2.any _) (Firm2.any _))))) 0 _ rfl (by simp)
              refine hK.out _ _ st2.1 (fun hHeld => ?_)
              (try simp only [Act.put, List.setIfInBounds_toArray, List.set_cons_zero, List.set_cons_succ])
              exact Hs3100.out _ _ ⟨sp, Ap, np, cp, sq, Aq, nq, cq, sr, Ar, nr, cr, W.heap.size, rfl, st2⟩
            refine AllReadyH.cons rfl (fun K hK => ?_) ?_
            · go_simp
              have st2 := Sg.make st.out (Firm2.and (Firm2.and (Firm2.and Firm2.yes (Firm2.and (Firm2.zi _ _ _) (Firm2.ows _ _ _))) (Firm2.and (Firm2.zi _ _ _) (Firm2.and (Firm2.ows _ _ _) (Firm2.any _)))) (Firm2.and (Firm2.zi _ _ _) (Firm2.and (Firm2.ows _ _ _) (Firm2.and (Firm2.any _) (Firm2.any _))))) 1 _ rfl (by simp)
              refine hK.out _ _ st2.1 (fun hHeld => ?_)
              (try simp only [Act.put, List.setIfInBounds_toArray, List.set_cons_zero, List.set_cons_succ])
              exact Hs3010.out _ _ ⟨sp, Ap, np, cp, sq, Aq, nq, cq, sr, Ar, nr, cr, W.heap.size, rfl, st2⟩
            refine AllReadyH.cons rfl (fun K hK => ?_) ?_
            · go_simp
              have st2 := Sg.make st.out (Firm2.and (Firm2.and (Firm2.and Firm2.yes (Firm2.and (Firm2.zi _ _ _) (Firm2.ows _ _ _))) (Firm2.and (Firm2.zi _ _ _) (Firm2.and (Firm2.ows _ _ _) (Firm2.any _)))) (Firm2.and (Firm2.zi _ _ _) (Firm2.and (Firm2.ows _ _ _) (Firm2.and (Firm2.any _) (Firm2.any _))))) 2 _ rfl (by simp)
              refine hK.out _ _ st2.1 (fun hHeld => ?_)
              (try simp only [Act.put, List.setIfInBounds_toArray, List.set_cons_zero, List.set_cons_succ])
              exact Hs3001.out _ _ ⟨sp, Ap, np, cp, sq, Aq, nq, cq, sr, Ar, nr, cr, W.heap.size, rfl, st2⟩
            exact AllReadyH.nil
          refine wpAnyH_with 4 #[true, true, true, true, true, true, true, true, false, true, true, true, false, false, false] (fun a W => ∃ (sp : Bool) (Ap : Option Addr) (np cp : Nat) (sq : Bool) (Aq : Option Addr) (nq cq : Nat) (l0 : Nat) (l1 : Nat) (l2 : Nat), a = ⟨#[zv sa (.slice Aa na ca), zv sb (.slice Ab nb cb), .pointer (some ⟨w.heap.size, 0, none⟩), .pointer (some ⟨w.heap.size + 1, 0, none⟩), .bool false, .pointer (some ⟨g0, 0, none⟩), .pointer (some ⟨g1, 0, none⟩), .pointer (some ⟨h0, 0, none⟩), .pointer (some ⟨h1, 0, none⟩), .bool true, .pointer (some ⟨l0, 0, none⟩), .pointer (some ⟨l1, 0, none⟩), .pointer (some ⟨l2, 0, none⟩), .bool true, .bool false, zv sa (.slice Aa na ca), zv sb (.slice Ab nb cb), .bool false, zv sa (.slice Aa na ca), zv sa (.slice Ax nx cx), zv sb (.slice Ab nb cb), zv sb (.slice Ay ny cy), zv sa (.slice Aa na ca), zv se (.slice Ae ne ce), zv sb (.slice Ab nb cb), zv sf (.slice Af nf cf), .pointer (some ⟨g0, 0, none⟩), .bool sa, .pointer (some ⟨g0, 1, none⟩), .slice Ax nx cx, zv s30 (.slice A30 n30 c30), zv se (.slice Ae ne ce), v32, .bool true, .bool true, zv sa (.slice Ax nx cx), zv s36 (.slice A36 n36 c36), zv se (.slice Ae ne ce), v38, v39, .bool true, .bool true, .bool true, zv sa (.slice Ax nx cx), .int .i64 (zsg ai), zv se (.slice Ae ne ce), .int .i64 (zsg ai), .bool true, .bool true, .bool true, zv sa (.slice Ax nx cx), zv sb (.slice Ay ny cy), .int .i64 (cmpZ ai bi), zv se (.slice Ae ne ce), zv sf (.slice Af nf cf), .int .i64 (cmpZ ai bi), .bool true, .bool true, zv sa (.slice Ax nx cx), zv sb (.slice Ay ny cy), zv sp (.slice Ap np cp), zv sa (.slice Ax nx cx), zv sb (.slice Ay ny cy), zv sq (.slice Aq nq cq), zv sa (.slice Ax nx cx), zv sb (.slice Ay ny cy), undef, undef, undef, undef, undef, undef, undef, undef, undef, undef, undef, undef, undef, undef, undef, undef, undef, undef, undef, undef, undef, undef, undef, undef, undef, undef, undef, undef, undef, undef, undef, undef, undef, undef, undef, undef, undef, undef, undef, undef, undef, undef, undef, undef, undef, undef, undef, undef, undef, undef, undef, undef], []⟩ ∧ Sg M.drew.heap.size M.drew W [zblk, zblk, zblk] [some l0, some l1, some l2] (fun W => ((True ∧ (Zi W (zv sp (.slice Ap np cp)) (ai + bi) (12 + 1) ∧ Ows W M.heap.size (.slice Ap np cp) (cn Q (ai + bi).natAbs))) ∧ (Zi W (zv sq (.slice Aq nq cq)) (ai - bi) (12 + 1) ∧ (Ows W M.heap.size (.slice Aq nq cq) (cn Q (ai - bi).natAbs) ∧ Dj (cn Q (ai + bi).natAbs) (.slice Ap np cp) (.slice Aq nq cq)))))) ?_ (fun Hs2111 => ?_)
          · rintro a W ⟨sp, Ap, np, cp, sq, Aq, nq, cq, l0, l1, l2, rfl, st0⟩
            have hHeld := st0.1
            have st := hide st0
            clear st0
            refine wpAnyH_ready (rs := [8]) (by kernel_rfl) (by simp) ?_
            refine AllReadyH.cons rfl (fun K hK => ?_) ?_
            · go_simp
              go_at_call 22
              refine Calls.mono (zmul_oa (K := 24) (HA.out _ _ _ _ (R.out.2.2.1.step st.out.1)) (HBB.out _ _ _ _ (R.out.2.2.2.step st.out.1)) (by omega) (by omega) KM.out) ?_
              rintro e wx ⟨sr, Ar, nr, cr, rfl, hz9, ow9, bx⟩
              have tx := And.intro hz9 (And.intro (ow9.mono (show M.heap.size ≤ W.heap.size from st.out.1.size)).ows (And.intro (Ows.fresh st.out.2.2.1.1.2.2 ow9) (Ows.fresh st.out.2.2.1.2.2.1 ow9)))
              clear hz9 ow9
              try dsimp only
              have st2 := Sg.call (G := fun W => (Zi W (zv sr (.slice Ar nr cr)) (ai * bi) (24) ∧ (Ows W M.heap.size (.slice Ar nr cr) (cn Q (ai * bi).natAbs) ∧ (Dj (cn Q (ai + bi).natAbs) (.slice Ap np cp) (.slice Ar nr cr) ∧ Dj (cn Q (ai - bi).natAbs) (.slice Aq nq cq) (.slice Ar nr cr))))) st.out bx (Firm2.and (Firm2.and Firm2.yes (Firm2.and (Firm2.zi _ _ _) (Firm2.ows _ _ _))) (Firm2.and (Firm2.zi _ _ _) (Firm2.and (Firm2.ows _ _ _) (Firm2.any _)))) tx
              have hSt := hide st2
              refine hK.out _ _ st2.1 (fun hHeld => ?_)
              clear hK K st2
              (try simp only [Act.put, List.setIfInBounds_toArray, List.set_cons_zero, List.set_cons_succ])
              exact Hs3111.out _ _ ⟨sp, Ap, np, cp, sq, Aq, nq, cq, sr, Ar, nr, cr, l0, l1, l2, rfl, hSt.out⟩
            exact AllReadyH.nil
          refine wpAnyH_with 5 #[true, true, true, true, true, true, true, true, false, true, true, false, false, false, false] (fun a W => ∃ (sp : Bool) (Ap : Option Addr) (np cp : Nat) (sq : Bool) (Aq : Option Addr) (nq cq : Nat) (l0 : Nat) (l1 : Nat), a = ⟨#[zv sa (.slice Aa na ca), zv sb (.slice Ab nb cb), .pointer (some ⟨w.heap.size, 0, none⟩), .pointer (some ⟨w.heap.size + 1, 0, none⟩), .bool false, .pointer (some ⟨g0, 0, none⟩), .pointer (some ⟨g1, 0, none⟩), .pointer (some ⟨h0, 0, none⟩), .pointer (some ⟨h1, 0, none⟩), .bool true, .pointer (some ⟨l0, 0, none⟩), .pointer (some ⟨l1, 0, none⟩), undef, .bool true, .bool false, zv sa (.slice Aa na ca), zv sb (.slice Ab nb cb), .bool false, zv sa (.slice Aa na ca), zv sa (.slice Ax nx cx), zv sb (.slice Ab nb cb), zv sb (.slice Ay ny cy), zv sa (.slice Aa na ca), zv se (.slice Ae ne ce), zv sb (.slice Ab nb cb), zv sf (.slice Af nf cf), .pointer (some ⟨g0, 0, none⟩), .bool sa, .pointer (some ⟨g0, 1, none⟩), .slice Ax nx cx, zv s30 (.slice A30 n30 c30), zv se (.slice Ae ne ce), v32, .bool true, .bool true, zv sa (.slice Ax nx cx), zv s36 (.slice A36 n36 c36), zv se (.slice Ae ne ce), v38, v39, .bool true, .bool true, .bool true, zv sa (.slice Ax nx cx), .int .i64 (zsg ai), zv se (.slice Ae ne ce), .int .i64 (zsg ai), .bool true, .bool true, .bool true, zv sa (.slice Ax nx cx), zv sb (.slice Ay ny cy), .int .i64 (cmpZ ai bi), zv se (.slice Ae ne ce), zv sf (.slice Af nf cf), .int .i64 (cmpZ ai bi), .bool true, .bool true, zv sa (.slice Ax nx cx), zv sb (.slice Ay ny cy), zv sp (.slice Ap np cp), zv sa (.slice Ax nx cx), zv sb (.slice Ay ny cy), zv sq (.slice Aq nq cq), zv sa (.slice Ax nx cx), zv sb (.slice Ay ny cy), undef, undef, undef, undef, undef, undef, undef, undef, undef, undef, undef, undef, undef, undef, undef, undef, undef, undef, undef, undef, undef, undef, undef, undef, undef, undef, undef, undef, undef, undef, undef, undef, undef, undef, undef, undef, undef, undef, undef, undef, undef, undef, undef, undef, undef, undef, undef, undef, undef, undef, undef, undef], []⟩ ∧ Sg M.drew.heap.size M.drew W [zblk, zblk, zblk] [some l0, some l1, none] (fun W => ((True ∧ (Zi W (zv sp (.slice Ap np cp)) (ai + bi) (12 + 1) ∧ Ows W M.heap.size (.slice Ap np cp) (cn Q (ai + bi).natAbs))) ∧ (Zi W (zv sq (.slice Aq nq cq)) (ai - bi) (12 + 1) ∧ (Ows W M.heap.size (.slice Aq nq cq) (cn Q (ai - bi).natAbs) ∧ Dj (cn Q (ai + bi).natAbs) (.slice Ap np cp) (.slice Aq nq cq)))))) ?_ (fun Hs2110 => ?_)
          · rintro a W ⟨sp, Ap, np, cp, sq, Aq, nq, cq, l0, l1, rfl, st0⟩
            have hHeld := st0.1
            have st := hide st0
            clear st0
            refine wpAnyH_ready (rs := [8, 11]) (by kernel_rfl) (by simp) ?_
            refine AllReadyH.cons rfl (fun K hK => ?_) ?_
            · go_simp
              go_at_call 22
              refine Calls.mono (zmul_oa (K := 24) (HA.out _ _ _ _ (R.out.2.2.1.step st.out.1)) (HBB.out _ _ _ _ (R.out.2.2.2.step st.out.1)) (by omega) (by omega) KM.out) ?_
              rintro e wx ⟨sr, Ar, nr, cr, rfl, hz9, ow9, bx⟩
              have tx := And.intro hz9 (And.intro (ow9.mono (show M.heap.size ≤ W.heap.size from st.out.1.size)).ows (And.intro (Ows.fresh st.out.2.2.1.1.2.2 ow9) (Ows.fresh st.out.2.2.1.2.2.1 ow9)))
              clear hz9 ow9
              try dsimp only
              have st2 := Sg.call (G := fun W => (Zi W (zv sr (.slice Ar nr cr)) (ai * bi) (24) ∧ (Ows W M.heap.size (.slice Ar nr cr) (cn Q (ai * bi).natAbs) ∧ (Dj (cn Q (ai + bi).natAbs) (.slice Ap np cp) (.slice Ar nr cr) ∧ Dj (cn Q (ai - bi).natAbs) (.slice Aq nq cq) (.slice Ar nr cr))))) st.out bx (Firm2.and (Firm2.and Firm2.yes (Firm2.and (Firm2.zi _ _ _) (Firm2.ows _ _ _))) (Firm2.and (Firm2.zi _ _ _) (Firm2.and (Firm2.ows _ _ _) (Firm2.any _)))) tx
              have hSt := hide st2
              refine hK.out _ _ st2.1 (fun hHeld => ?_)
              clear hK K st2
              (try simp only [Act.put, List.setIfInBounds_toArray, List.set_cons_zero, List.set_cons_succ])
              exact Hs3110.out _ _ ⟨sp, Ap, np, cp, sq, Aq, nq, cq, sr, Ar, nr, cr, l0, l1, rfl, hSt.out⟩
            refine AllReadyH.cons rfl (fun K hK => ?_) ?_
            · go_simp
              have st2 := Sg.make st.out (Firm2.and (Firm2.and Firm2.yes (Firm2.and (Firm2.zi _ _ _) (Firm2.ows _ _ _))) (Firm2.and (Firm2.zi _ _ _) (Firm2.and (Firm2.ows _ _ _) (Firm2.any _)))) 2 _ rfl (by simp)
              refine hK.out _ _ st2.1 (fun hHeld => ?_)
              (try simp only [Act.put, List.setIfInBounds_toArray, List.set_cons_zero, List.set_cons_succ])
              exact Hs2111.out _ _ ⟨sp, Ap, np, cp, sq, Aq, nq, cq, l0, l1, W.heap.size, rfl, st2⟩
            exact AllReadyH.nil
          refine wpAnyH_with 5 #[true, true, true, true, true, true, true, true, false, true, false, true, false, false, false] (fun a W => ∃ (sp : Bool) (Ap : Option Addr) (np cp : Nat) (sq : Bool) (Aq : Option Addr) (nq cq : Nat) (l0 : Nat) (l2 : Nat), a = ⟨#[zv sa (.slice Aa na ca), zv sb (.slice Ab nb cb), .pointer (some ⟨w.heap.size, 0, none⟩), .pointer (some ⟨w.heap.size + 1, 0, none⟩), .bool false, .pointer (some ⟨g0, 0, none⟩), .pointer (some ⟨g1, 0, none⟩), .pointer (some ⟨h0, 0, none⟩), .pointer (some ⟨h1, 0, none⟩), .bool true, .pointer (some ⟨l0, 0, none⟩), undef, .pointer (some ⟨l2, 0, none⟩), .bool true, .bool false, zv sa (.slice Aa na ca), zv sb (.slice Ab nb cb), .bool false, zv sa (.slice Aa na ca), zv sa (.slice Ax nx cx), zv sb (.slice Ab nb cb), zv sb (.slice Ay ny cy), zv sa (.slice Aa na ca), zv se (.slice Ae ne ce), zv sb (.slice Ab nb cb), zv sf (.slice Af nf cf), .pointer (some ⟨g0, 0, none⟩), .bool sa, .pointer (some ⟨g0, 1, none⟩), .slice Ax nx cx, zv s30 (.slice A30 n30 c30), zv se (.slice Ae ne ce), v32, .bool true, .bool true, zv sa (.slice Ax nx cx), zv s36 (.slice A36 n36 c36), zv se (.slice Ae ne ce), v38, v39, .bool true, .bool true, .bool true, zv sa (.slice Ax nx cx), .int .i64 (zsg ai), zv se (.slice Ae ne ce), .int .i64 (zsg ai), .bool true, .bool true, .bool true, zv sa (.slice Ax nx cx), zv sb (.slice Ay ny cy), .int .i64 (cmpZ ai bi), zv se (.slice Ae ne ce), zv sf (.slice Af nf cf), .int .i64 (cmpZ ai bi), .bool true, .bool true, zv sa (.slice Ax nx cx), zv sb (.slice Ay ny cy), zv sp (.slice Ap np cp), zv sa (.slice Ax nx cx), zv sb (.slice Ay ny cy), zv sq (.slice Aq nq cq), zv sa (.slice Ax nx cx), zv sb (.slice Ay ny cy), undef, undef, undef, undef, undef, undef, undef, undef, undef, undef, undef, undef, undef, undef, undef, undef, undef, undef, undef, undef, undef, undef, undef, undef, undef, undef, undef, undef, undef, undef, undef, undef, undef, undef, undef, undef, undef, undef, undef, undef, undef, undef, undef, undef, undef, undef, undef, undef, undef, undef, undef, undef], []⟩ ∧ Sg M.drew.heap.size M.drew W [zblk, zblk, zblk] [some l0, none, some l2] (fun W => ((True ∧ (Zi W (zv sp (.slice Ap np cp)) (ai + bi) (12 + 1) ∧ Ows W M.heap.size (.slice Ap np cp) (cn Q (ai + bi).natAbs))) ∧ (Zi W (zv sq (.slice Aq nq cq)) (ai - bi) (12 + 1) ∧ (Ows W M.heap.size (.slice Aq nq cq) (cn Q (ai - bi).natAbs) ∧ Dj (cn Q (ai + bi).natAbs) (.slice Ap np cp) (.slice Aq nq cq)))))) ?_ (fun Hs2101 => ?_)
          · rintro a W ⟨sp, Ap, np, cp, sq, Aq, nq, cq, l0, l2, rfl, st0⟩
            have hHeld := st0.1
            have st := hide st0
            clear st0
            refine wpAnyH_ready (rs := [8, 10]) (by kernel_rfl) (by simp) ?_
            refine AllReadyH.cons rfl (fun K hK => ?_) ?_
            · go_simp
              go_at_call 22
              refine Calls.mono (zmul_oa (K := 24) (HA.out _ _ _ _ (R.out.2.2.1.step st.out.1)) (HBB.out _ _ _ _ (R.out.2.2.2.step st.out.1)) (by omega) (by omega) KM.out) ?_
              rintro e wx ⟨sr, Ar, nr, cr, rfl, hz9, ow9, bx⟩
              have tx := And.intro hz9 (And.intro (ow9.mono (show M.heap.size ≤ W.heap.size from st.out.1.size)).ows (And.intro (Ows.fresh st.out.2.2.1.1.2.2 ow9) (Ows.fresh st.out.2.2.1.2.2.1 ow9)))
              clear hz9 ow9
              try dsimp only
              have st2 := Sg.call (G := fun W => (Zi W (zv sr (.slice Ar nr cr)) (ai * bi) (24) ∧ (Ows W M.heap.size (.slice Ar nr cr) (cn Q (ai * bi).natAbs) ∧ (Dj (cn Q (ai + bi).natAbs) (.slice Ap np cp) (.slice Ar nr cr) ∧ Dj (cn Q (ai - bi).natAbs) (.slice Aq nq cq) (.slice Ar nr cr))))) st.out bx (Firm2.and (Firm2.and Firm2.yes (Firm2.and (Firm2.zi _ _ _) (Firm2.ows _ _ _))) (Firm2.and (Firm2.zi _ _ _) (Firm2.and (Firm2.ows _ _ _) (Firm2.any _)))) tx
              have hSt := hide st2
              refine hK.out _ _ st2.1 (fun hHeld => ?_)
              clear hK K st2
              (try simp only [Act.put, List.setIfInBounds_toArray, List.set_cons_zero, List.set_cons_succ])
              exact Hs3101.out _ _ ⟨sp, Ap, np, cp, sq, Aq, nq, cq, sr, Ar, nr, cr, l0, l2, rfl, hSt.out⟩
            refine AllReadyH.cons rfl (fun K hK => ?_) ?_
            · go_simp
              have st2 := Sg.make st.out (Firm2.and (Firm2.and Firm2.yes (Firm2.and (Firm2.zi _ _ _) (Firm2.ows _ _ _))) (Firm2.and (Firm2.zi _ _ _) (Firm2.and (Firm2.ows _ _ _) (Firm2.any _)))) 1 _ rfl (by simp)
              refine hK.out _ _ st2.1 (fun hHeld => ?_)
              (try simp only [Act.put, List.setIfInBounds_toArray, List.set_cons_zero, List.set_cons_succ])
              exact Hs2111.out _ _ ⟨sp, Ap, np, cp, sq, Aq, nq, cq, l0, W.heap.size, l2, rfl, st2⟩
            exact AllReadyH.nil
          refine wpAnyH_with 6 #[true, true, true, true, true, true, true, true, false, true, false, false, false, false, false] (fun a W => ∃ (sp : Bool) (Ap : Option Addr) (np cp : Nat) (sq : Bool) (Aq : Option Addr) (nq cq : Nat) (l0 : Nat), a = ⟨#[zv sa (.slice Aa na ca), zv sb (.slice Ab nb cb), .pointer (some ⟨w.heap.size, 0, none⟩), .pointer (some ⟨w.heap.size + 1, 0, none⟩), .bool false, .pointer (some ⟨g0, 0, none⟩), .pointer (some ⟨g1, 0, none⟩), .pointer (some ⟨h0, 0, none⟩), .pointer (some ⟨h1, 0, none⟩), .bool true, .pointer (some ⟨l0, 0, none⟩), undef, undef, .bool true, .bool false, zv sa (.slice Aa na ca), zv sb (.slice Ab nb cb), .bool false, zv sa (.slice Aa na ca), zv sa (.slice Ax nx cx), zv sb (.slice Ab nb cb), zv sb (.slice Ay ny cy), zv sa (.slice Aa na ca), zv se (.slice Ae ne ce), zv sb (.slice Ab nb cb), zv sf (.slice Af nf cf), .pointer (some ⟨g0, 0, none⟩), .bool sa, .pointer (some ⟨g0, 1, none⟩), .slice Ax nx cx, zv s30 (.slice A30 n30 c30), zv se (.slice Ae ne ce), v32, .bool true, .bool true, zv sa (.slice Ax nx cx), zv s36 (.slice A36 n36 c36), zv se (.slice Ae ne ce), v38, v39, .bool true, .bool true, .bool true, zv sa (.slice Ax nx cx), .int .i64 (zsg ai), zv se (.slice Ae ne ce), .int .i64 (zsg ai), .bool true, .bool true, .bool true, zv sa (.slice Ax nx cx), zv sb (.slice Ay ny cy), .int .i64 (cmpZ ai bi), zv se (.slice Ae ne ce), zv sf (.slice Af nf cf), .int .i64 (cmpZ ai bi), .bool true, .bool true, zv sa (.slice Ax nx cx), zv sb (.slice Ay ny cy), zv sp (.slice Ap np cp), zv sa (.slice Ax nx cx), zv sb (.slice Ay ny cy), zv sq (.slice Aq nq cq), zv sa (.slice Ax nx cx), zv sb (.slice Ay ny cy), undef, undef, undef, undef, undef, undef, undef, undef, undef, undef, undef, undef, undef, undef, undef, undef, undef, undef, undef, undef, undef, undef, undef, undef, undef, undef, undef, undef, undef, undef, undef, undef, undef, undef, undef, undef, undef, undef, undef, undef, undef, undef, undef, undef, undef, undef, undef, undef, undef, undef, undef, undef], []⟩ ∧ Sg M.drew.heap.size M.drew W [zblk, zblk, zblk] [some l0, none, none] (fun W => ((True ∧ (Zi W (zv sp (.slice Ap np cp)) (ai + bi) (12 + 1) ∧ Ows W M.heap.size (.slice Ap np cp) (cn Q (ai + bi).natAbs))) ∧ (Zi W (zv sq (.slice Aq nq cq)) (ai - bi) (12 + 1) ∧ (Ows W M.heap.size (.slice Aq nq cq) (cn Q (ai - bi).natAbs) ∧ Dj (cn Q (ai + bi).natAbs) (.slice Ap np cp) (.slice Aq nq cq)))))) ?_ (fun Hs2100 => ?_)
          · rintro a W ⟨sp, Ap, np, cp, sq, Aq, nq, cq, l0, rfl, st0⟩
            have hHeld := st0.1
            have st := hide st0
            clear st0
            refine wpAnyH_ready (rs := [8, 10, 11]) (by kernel_rfl) (by simp) ?_
            refine AllReadyH.cons rfl (fun K hK => ?_) ?_
            · go_simp
              go_at_call 22
              refine Calls.mono (zmul_oa (K := 24) (HA.out _ _ _ _ (R.out.2.2.1.step st.out.1)) (HBB.out _ _ _ _ (R.out.2.2.2.step st.out.1)) (by omega) (by omega) KM.out) ?_
              rintro e wx ⟨sr, Ar, nr, cr, rfl, hz9, ow9, bx⟩
              have tx := And.intro hz9 (And.intro (ow9.mono (show M.heap.size ≤ W.heap.size from st.out.1.size)).ows (And.intro (Ows.fresh st.out.2.2.1.1.2.2 ow9) (Ows.fresh st.out.2.2.1.2.2.1 ow9)))
              clear hz9 ow9
              try dsimp only
              have st2 := Sg.call (G := fun W => (Zi W (zv sr (.slice Ar nr cr)) (ai * bi) (24) ∧ (Ows W M.heap.size (.slice Ar nr cr) (cn Q (ai * bi).natAbs) ∧ (Dj (cn Q (ai + bi).natAbs) (.slice Ap np cp) (.slice Ar nr cr) ∧ Dj (cn Q (ai - bi).natAbs) (.slice Aq nq cq) (.slice Ar nr cr))))) st.out bx (Firm2.and (Firm2.and Firm2.yes (Firm2.and (Firm2.zi _ _ _) (Firm2.ows _ _ _))) (Firm2.and (Firm2.zi _ _ _) (Firm2.and (Firm2.ows _ _ _) (Firm2.any _)))) tx
              have hSt := hide st2
              refine hK.out _ _ st2.1 (fun hHeld => ?_)
              clear hK K st2
              (try simp only [Act.put, List.setIfInBounds_toArray, List.set_cons_zero, List.set_cons_succ])
              exact Hs3100.out _ _ ⟨sp, Ap, np, cp, sq, Aq, nq, cq, sr, Ar, nr, cr, l0, rfl, hSt.out⟩
            refine AllReadyH.cons rfl (fun K hK => ?_) ?_
            · go_simp
              have st2 := Sg.make st.out (Firm2.and (Firm2.and Firm2.yes (Firm2.and (Firm2.zi _ _ _) (Firm2.ows _ _ _))) (Firm2.and (Firm2.zi _ _ _) (Firm2.and (Firm2.ows _ _ _) (Firm2.any _)))) 1 _ rfl (by simp)
              refine hK.out _ _ st2.1 (fun hHeld => ?_)
              (try simp only [Act.put, List.setIfInBounds_toArray, List.set_cons_zero, List.set_cons_succ])
              exact Hs2110.out _ _ ⟨sp, Ap, np, cp, sq, Aq, nq, cq, l0, W.heap.size, rfl, st2⟩
            refine AllReadyH.cons rfl (fun K hK => ?_) ?_
            · go_simp
              have st2 := Sg.make st.out (Firm2.and (Firm2.and Firm2.yes (Firm2.and (Firm2.zi _ _ _) (Firm2.ows _ _ _))) (Firm2.and (Firm2.zi _ _ _) (Firm2.and (Firm2.ows _ _ _) (Firm2.any _)))) 2 _ rfl (by simp)
              refine hK.out _ _ st2.1 (fun hHeld => ?_)
              (try simp only [Act.put, List.setIfInBounds_toArray, List.set_cons_zero, List.set_cons_succ])
              exact Hs2101.out _ _ ⟨sp, Ap, np, cp, sq, Aq, nq, cq, l0, W.heap.size, rfl, st2⟩
            exact AllReadyH.nil
          refine wpAnyH_with 5 #[true, true, true, true, true, true, true, true, false, false, true, true, false, false, false] (fun a W => ∃ (sp : Bool) (Ap : Option Addr) (np cp : Nat) (sq : Bool) (Aq : Option Addr) (nq cq : Nat) (l1 : Nat) (l2 : Nat), a = ⟨#[zv sa (.slice Aa na ca), zv sb (.slice Ab nb cb), .pointer (some ⟨w.heap.size, 0, none⟩), .pointer (some ⟨w.heap.size + 1, 0, none⟩), .bool false, .pointer (some ⟨g0, 0, none⟩), .pointer (some ⟨g1, 0, none⟩), .pointer (some ⟨h0, 0, none⟩), .pointer (some ⟨h1, 0, none⟩), .bool true, undef, .pointer (some ⟨l1, 0, none⟩), .pointer (some ⟨l2, 0, none⟩), .bool true, .bool false, zv sa (.slice Aa na ca), zv sb (.slice Ab nb cb), .bool false, zv sa (.slice Aa na ca), zv sa (.slice Ax nx cx), zv sb (.slice Ab nb cb), zv sb (.slice Ay ny cy), zv sa (.slice Aa na ca), zv se (.slice Ae ne ce), zv sb (.slice Ab nb cb), zv sf (.slice Af nf cf), .pointer (some ⟨g0, 0, none⟩), .bool sa, .pointer (some ⟨g0, 1, none⟩), .slice Ax nx cx, zv s30 (.slice A30 n30 c30), zv se (.slice Ae ne ce), v32, .bool true, .bool true, zv sa (.slice Ax nx cx), zv s36 (.slice A36 n36 c36), zv se (.slice Ae ne ce), v38, v39, .bool true, .bool true, .bool true, zv sa (.slice Ax nx cx), .int .i64 (zsg ai), zv se (.slice Ae ne ce), .int .i64 (zsg ai), .bool true, .bool true, .bool true, zv sa (.slice Ax nx cx), zv sb (.slice Ay ny cy), .int .i64 (cmpZ ai bi), zv se (.slice Ae ne ce), zv sf (.slice Af nf cf), .int .i64 (cmpZ ai bi), .bool true, .bool true, zv sa (.slice Ax nx cx), zv sb (.slice Ay ny cy), zv sp (.slice Ap np cp), zv sa (.slice Ax nx cx), zv sb (.slice Ay ny cy), zv sq (.slice Aq nq cq), zv sa (.slice Ax nx cx), zv sb (.slice Ay ny cy), undef, undef, undef, undef, undef, undef, undef, undef, undef, undef, undef, undef, undef, undef, undef, undef, undef, undef, undef, undef, undef, undef, undef, undef, undef, undef, undef, undef, undef, undef, undef, undef, undef, undef, undef, undef, undef, undef, undef, undef, undef, undef, undef, undef, undef, undef, undef, undef, undef, undef, undef, undef], []⟩ ∧ Sg M.drew.heap.size M.drew W [zblk, zblk, zblk] [none, some l1, some l2] (fun W => ((True ∧ (Zi W (zv sp (.slice Ap np cp)) (ai + bi) (12 + 1) ∧ Ows W M.heap.size (.slice Ap np cp) (cn Q (ai + bi).natAbs))) ∧ (Zi W (zv sq (.slice Aq nq cq)) (ai - bi) (12 + 1) ∧ (Ows W M.heap.size (.slice Aq nq cq) (cn Q (ai - bi).natAbs) ∧ Dj (cn Q (ai + bi).natAbs) (.slice Ap np cp) (.slice Aq nq cq)))))) ?_ (fun Hs2011 => ?_)
          · rintro a W ⟨sp, Ap, np, cp, sq, Aq, nq, cq, l1, l2, rfl, st0⟩
            have hHeld := st0.1
            have st := hide st0
            clear st0
            refine wpAnyH_ready (rs := [8, 9]) (by kernel_rfl) (by simp) ?_
            refine AllReadyH.cons rfl (fun K hK => ?_) ?_
            · go_simp
              go_at_call 22
              refine Calls.mono (zmul_oa (K := 24) (HA.out _ _ _ _ (R.out.2.2.1.step st.out.1)) (HBB.out _ _ _ _ (R.out.2.2.2.step st.out.1)) (by omega) (by omega) KM.out) ?_
              rintro e wx ⟨sr, Ar, nr, cr, rfl, hz9, ow9, bx⟩
              have tx := And.intro hz9 (And.intro (ow9.mono (show M.heap.size ≤ W.heap.size from st.out.1.size)).ows (And.intro (Ows.fresh st.out.2.2.1.1.2.2 ow9) (Ows.fresh st.out.2.2.1.2.2.1 ow9)))
              clear hz9 ow9
              try dsimp only
              have st2 := Sg.call (G := fun W => (Zi W (zv sr (.slice Ar nr cr)) (ai * bi) (24) ∧ (Ows W M.heap.size (.slice Ar nr cr) (cn Q (ai * bi).natAbs) ∧ (Dj (cn Q (ai + bi).natAbs) (.slice Ap np cp) (.slice Ar nr cr) ∧ Dj (cn Q (ai - bi).natAbs) (.slice Aq nq cq) (.slice Ar nr cr))))) st.out bx (Firm2.and (Firm2.and Firm2.yes (Firm2.and (Firm2.zi _ _ _) (Firm2.ows _ _ _))) (Firm2.and (Firm2.zi _ _ _) (Firm2.and (Firm2.ows _ _ _) (Firm2.any _)))) tx
              have hSt := hide st2
              refine hK.out _ _ st2.1 (fun hHeld => ?_)
              clear hK K st2
              (try simp only [Act.put, List.setIfInBounds_toArray, List.set_cons_zero, List.set_cons_succ])
              exact Hs3011.out _ _ ⟨sp, Ap, np, cp, sq, Aq, nq, cq, sr, Ar, nr, cr, l1, l2, rfl, hSt.out⟩
            refine AllReadyH.cons rfl (fun K hK => ?_) ?_
            · go_simp
              have st2 := Sg.make st.out (Firm2.and (Firm2.and Firm2.yes (Firm2.and (Firm2.zi _ _ _) (Firm2.ows _ _ _))) (Firm2.and (Firm2.zi _ _ _) (Firm2.and (Firm2.ows _ _ _) (Firm2.any _)))) 0 _ rfl (by simp)
              refine hK.out _ _ st2.1 (fun hHeld => ?_)
              (try simp only [Act.put, List.setIfInBounds_toArray, List.set_cons_zero, List.set_cons_succ])
              exact Hs2111.out _ _ ⟨sp, Ap, np, cp, sq, Aq, nq, cq, W.heap.size, l1, l2, rfl, st2⟩
            exact AllReadyH.nil
          refine wpAnyH_with 6 #[true, true, true, true, true, true, true, true, false, false, true, false, false, false, false] (fun a W => ∃ (sp : Bool) (Ap : Option Addr) (np cp : Nat) (sq : Bool) (Aq : Option Addr) (nq cq : Nat) (l1 : Nat), a = ⟨#[zv sa (.slice Aa na ca), zv sb (.slice Ab nb cb), .pointer (some ⟨w.heap.size, 0, none⟩), .pointer (some ⟨w.heap.size + 1, 0, none⟩), .bool false, .pointer (some ⟨g0, 0, none⟩), .pointer (some ⟨g1, 0, none⟩), .pointer (some ⟨h0, 0, none⟩), .pointer (some ⟨h1, 0, none⟩), .bool true, undef, .pointer (some ⟨l1, 0, none⟩), undef, .bool true, .bool false, zv sa (.slice Aa na ca), zv sb (.slice Ab nb cb), .bool false, zv sa (.slice Aa na ca), zv sa (.slice Ax nx cx), zv sb (.slice Ab nb cb), zv sb (.slice Ay ny cy), zv sa (.slice Aa na ca), zv se (.slice Ae ne ce), zv sb (.slice Ab nb cb), zv sf (.slice Af nf cf), .pointer (some ⟨g0, 0, none⟩), .bool sa, .pointer (some ⟨g0, 1, none⟩), .slice Ax nx cx, zv s30 (.slice A30 n30 c30), zv se (.slice Ae ne ce), v32, .bool true, .bool true, zv sa (.slice Ax nx cx), zv s36 (.slice A36 n36 c36), zv se (.slice Ae ne ce), v38, v39, .bool true, .bool true, .bool true, zv sa (.slice Ax nx cx), .int .i64 (zsg ai), zv se (.slice Ae ne ce), .int .i64 (zsg ai), .bool true, .bool true, .bool true, zv sa (.slice Ax nx cx), zv sb (.slice Ay ny cy), .int .i64 (cmpZ ai bi), zv se (.slice Ae ne ce), zv sf (.slice Af nf cf), .int .i64 (cmpZ ai bi), .bool true, .bool true, zv sa (.slice Ax nx cx), zv sb (.slice Ay ny cy), zv sp (.slice Ap np cp), zv sa (.slice Ax nx cx), zv sb (.slice Ay ny cy), zv sq (.slice Aq nq cq), zv sa (.slice Ax nx cx), zv sb (.slice Ay ny cy), undef, undef, undef, undef, undef, undef, undef, undef, undef, undef, undef, undef, undef, undef, undef, undef, undef, undef, undef, undef, undef, undef, undef, undef, undef, undef, undef, undef, undef, undef, undef, undef, undef, undef, undef, undef, undef, undef, undef, undef, undef, undef, undef, undef, undef, undef, undef, undef, undef, undef, undef, undef], []⟩ ∧ Sg M.drew.heap.size M.drew W [zblk, zblk, zblk] [none, some l1, none] (fun W => ((True ∧ (Zi W (zv sp (.slice Ap np cp)) (ai + bi) (12 + 1) ∧ Ows W M.heap.size (.slice Ap np cp) (cn Q (ai + bi).natAbs))) ∧ (Zi W (zv sq (.slice Aq nq cq)) (ai - bi) (12 + 1) ∧ (Ows W M.heap.size (.slice Aq nq cq) (cn Q (ai - bi).natAbs) ∧ Dj (cn Q (ai + bi).natAbs) (.slice Ap np cp) (.slice Aq nq cq)))))) ?_ (fun Hs2010 => ?_)
          · rintro a W ⟨sp, Ap, np, cp, sq, Aq, nq, cq, l1, rfl, st0⟩
            have hHeld := st0.1
            have st := hide st0
            clear st0
            refine wpAnyH_ready (rs := [8, 9, 11]) (by kernel_rfl) (by simp) ?_
            refine AllReadyH.cons rfl (fun K hK => ?_) ?_
            · go_simp
              go_at_call 22
              refine Calls.mono (zmul_oa (K := 24) (HA.out _ _ _ _ (R.out.2.2.1.step st.out.1)) (HBB.out _ _ _ _ (R.out.2.2.2.step st.out.1)) (by omega) (by omega) KM.out) ?_
              rintro e wx ⟨sr, Ar, nr, cr, rfl, hz9, ow9, bx⟩
              have tx := And.intro hz9 (And.intro (ow9.mono (show M.heap.size ≤ W.heap.size from st.out.1.size)).ows (And.intro (Ows.fresh st.out.2.2.1.1.2.2 ow9) (Ows.fresh st.out.2.2.1.2.2.1 ow9)))
              clear hz9 ow9
              try dsimp only
              have st2 := Sg.call (G := fun W => (Zi W (zv sr (.slice Ar nr cr)) (ai * bi) (24) ∧ (Ows W M.heap.size (.slice Ar nr cr) (cn Q (ai * bi).natAbs) ∧ (Dj (cn Q (ai + bi).natAbs) (.slice Ap np cp) (.slice Ar nr cr) ∧ Dj (cn Q (ai - bi).natAbs) (.slice Aq nq cq) (.slice Ar nr cr))))) st.out bx (Firm2.and (Firm2.and Firm2.yes (Firm2.and (Firm2.zi _ _ _) (Firm2.ows _ _ _))) (Firm2.and (Firm2.zi _ _ _) (Firm2.and (Firm2.ows _ _ _) (Firm2.any _)))) tx
              have hSt := hide st2
              refine hK.out _ _ st2.1 (fun hHeld => ?_)
              clear hK K st2
              (try simp only [Act.put, List.setIfInBounds_toArray, List.set_cons_zero, List.set_cons_succ])
              exact Hs3010.out _ _ ⟨sp, Ap, np, cp, sq, Aq, nq, cq, sr, Ar, nr, cr, l1, rfl, hSt.out⟩
            refine AllReadyH.cons rfl (fun K hK => ?_) ?_
            · go_simp
              have st2 := Sg.make st.out (Firm2.and (Firm2.and Firm2.yes (Firm2.and (Firm2.zi _ _ _) (Firm2.ows _ _ _))) (Firm2.and (Firm2.zi _ _ _) (Firm2.and (Firm2.ows _ _ _) (Firm2.any _)))) 0 _ rfl (by simp)
              refine hK.out _ _ st2.1 (fun hHeld => ?_)
              (try simp only [Act.put, List.setIfInBounds_toArray, List.set_cons_zero, List.set_cons_succ])
              exact Hs2110.out _ _ ⟨sp, Ap, np, cp, sq, Aq, nq, cq, W.heap.size, l1, rfl, st2⟩
            refine AllReadyH.cons rfl (fun K hK => ?_) ?_
            · go_simp
              have st2 := Sg.make st.out (Firm2.and (Firm2.and Firm2.yes (Firm2.and (Firm2.zi _ _ _) (Firm2.ows _ _ _))) (Firm2.and (Firm2.zi _ _ _) (Firm2.and (Firm2.ows _ _ _) (Firm2.any _)))) 2 _ rfl (by simp)
              refine hK.out _ _ st2.1 (fun hHeld => ?_)
              (try simp only [Act.put, List.setIfInBounds_toArray, List.set_cons_zero, List.set_cons_succ])
              exact Hs2011.out _ _ ⟨sp, Ap, np, cp, sq, Aq, nq, cq, l1, W.heap.size, rfl, st2⟩
            exact AllReadyH.nil
          refine wpAnyH_with 6 #[true, true, true, true, true, true, true, true, false, false, false, true, false, false, false] (fun a W => ∃ (sp : Bool) (Ap : Option Addr) (np cp : Nat) (sq : Bool) (Aq : Option Addr) (nq cq : Nat) (l2 : Nat), a = ⟨#[zv sa (.slice Aa na ca), zv sb (.slice Ab nb cb), .pointer (some ⟨w.heap.size, 0, none⟩), .pointer (some ⟨w.heap.size + 1, 0, none⟩), .bool false, .pointer (some ⟨g0, 0, none⟩), .pointer (some ⟨g1, 0, none⟩), .pointer (some ⟨h0, 0, none⟩), .pointer (some ⟨h1, 0, none⟩), .bool true, undef, undef, .pointer (some ⟨l2, 0, none⟩), .bool true, .bool false, zv sa (.slice Aa na ca), zv sb (.slice Ab nb cb), .bool false, zv sa (.slice Aa na ca), zv sa (.slice Ax nx cx), zv sb (.slice Ab nb cb), zv sb (.slice Ay ny cy), zv sa (.slice Aa na ca), zv se (.slice Ae ne ce), zv sb (.slice Ab nb cb), zv sf (.slice Af nf cf), .pointer (some ⟨g0, 0, none⟩), .bool sa, .pointer (some ⟨g0, 1, none⟩), .slice Ax nx cx, zv s30 (.slice A30 n30 c30), zv se (.slice Ae ne ce), v32, .bool true, .bool true, zv sa (.slice Ax nx cx), zv s36 (.slice A36 n36 c36), zv se (.slice Ae ne ce), v38, v39, .bool true, .bool true, .bool true, zv sa (.slice Ax nx cx), .int .i64 (zsg ai), zv se (.slice Ae ne ce), .int .i64 (zsg ai), .bool true, .bool true, .bool true, zv sa (.slice Ax nx cx), zv sb (.slice Ay ny cy), .int .i64 (cmpZ ai bi), zv se (.slice Ae ne ce), zv sf (.slice Af nf cf), .int .i64 (cmpZ ai bi), .bool true, .bool true, zv sa (.slice Ax nx cx), zv sb (.slice Ay ny cy), zv sp (.slice Ap np cp), zv sa (.slice Ax nx cx), zv sb (.slice Ay ny cy), zv sq (.slice Aq nq cq), zv sa (.slice Ax nx cx), zv sb (.slice Ay ny cy), undef, undef, undef, undef, undef, undef, undef, undef, undef, undef, undef, undef, undef, undef, undef, undef, undef, undef, undef, undef, undef, undef, undef, undef, undef, undef, undef, undef, undef, undef, undef, undef, undef, undef, undef, undef, undef, undef, undef, undef, undef, undef, undef, undef, undef, undef, undef, undef, undef, undef, undef, undef], []⟩ ∧ Sg M.drew.heap.size M.drew W [zblk, zblk, zblk] [none, none, some l2] (fun W => ((True ∧ (Zi W (zv sp (.slice Ap np cp)) (ai + bi) (12 + 1) ∧ Ows W M.heap.size (.slice Ap np cp) (cn Q (ai + bi).natAbs))) ∧ (Zi W (zv sq (.slice Aq nq cq)) (ai - bi) (12 + 1) ∧ (Ows W M.heap.size (.slice Aq nq cq) (cn Q (ai - bi).natAbs) ∧ Dj (cn Q (ai + bi).natAbs) (.slice Ap np cp) (.slice Aq nq cq)))))) ?_ (fun Hs2001 => ?_)
          · rintro a W ⟨sp, Ap, np, cp, sq, Aq, nq, cq, l2, rfl, st0⟩
            have hHeld := st0.1
            have st := hide st0
            clear st0
            refine wpAnyH_ready (rs := [8, 9, 10]) (by kernel_rfl) (by simp) ?_
            refine AllReadyH.cons rfl (fun K hK => ?_) ?_
            · go_simp
              go_at_call 22
              refine Calls.mono (zmul_oa (K := 24) (HA.out _ _ _ _ (R.out.2.2.1.step st.out.1)) (HBB.out _ _ _ _ (R.out.2.2.2.step st.out.1)) (by omega) (by omega) KM.out) ?_
              rintro e wx ⟨sr, Ar, nr, cr, rfl, hz9, ow9, bx⟩
              have tx := And.intro hz9 (And.intro (ow9.mono (show M.heap.size ≤ W.heap.size from st.out.1.size)).ows (And.intro (Ows.fresh st.out.2.2.1.1.2.2 ow9) (Ows.fresh st.out.2.2.1.2.2.1 ow9)))
              clear hz9 ow9
              try dsimp only
              have st2 := Sg.call (G := fun W => (Zi W (zv sr (.slice Ar nr cr)) (ai * bi) (24) ∧ (Ows W M.heap.size (.slice Ar nr cr) (cn Q (ai * bi).natAbs) ∧ (Dj (cn Q (ai + bi).natAbs) (.slice Ap np cp) (.slice Ar nr cr) ∧ Dj (cn Q (ai - bi).natAbs) (.slice Aq nq cq) (.slice Ar nr cr))))) st.out bx (Firm2.and (Firm2.and Firm2.yes (Firm2.and (Firm2.zi _ _ _) (Firm2.ows _ _ _))) (Firm2.and (Firm2.zi _ _ _) (Firm2.and (Firm2.ows _ _ _) (Firm2.any _)))) tx
              have hSt := hide st2
              refine hK.out _ _ st2.1 (fun hHeld => ?_)
              clear hK K st2
              (try simp only [Act.put, List.setIfInBounds_toArray, List.set_cons_zero, List.set_cons_succ])
              exact Hs3001.out _ _ ⟨sp, Ap, np, cp, sq, Aq, nq, cq, sr, Ar, nr, cr, l2, rfl, hSt.out⟩
            refine AllReadyH.cons rfl (fun K hK => ?_) ?_
            · go_simp
              have st2 := Sg.make st.out (Firm2.and (Firm2.and Firm2.yes (Firm2.and (Firm2.zi _ _ _) (Firm2.ows _ _ _))) (Firm2.and (Firm2.zi _ _ _) (Firm2.and (Firm2.ows _ _ _) (Firm2.any _)))) 0 _ rfl (by simp)
              refine hK.out _ _ st2.1 (fun hHeld => ?_)
              (try simp only [Act.put, List.setIfInBounds_toArray, List.set_cons_zero, List.set_cons_succ])
              exact Hs2101.out _ _ ⟨sp, Ap, np, cp, sq, Aq, nq, cq, W.heap.size, l2, rfl, st2⟩
            refine AllReadyH.cons rfl (fun K hK => ?_) ?_
            · go_simp
              have st2 := Sg.make st.out (Firm2.and (Firm2.and Firm2.yes (Firm2.and (Firm2.zi _ _ _) (Firm2.ows _ _ _))) (Firm2.and (Firm2.zi _ _ _) (Firm2.and (Firm2.ows _ _ _) (Firm2.any _)))) 1 _ rfl (by simp)
              refine hK.out _ _ st2.1 (fun hHeld => ?_)
              (try simp only [Act.put, List.setIfInBounds_toArray, List.set_cons_zero, List.set_cons_succ])
              exact Hs2011.out _ _ ⟨sp, Ap, np, cp, sq, Aq, nq, cq, W.heap.size, l2, rfl, st2⟩
            exact AllReadyH.nil
          refine wpAnyH_with 7 #[true, true, true, true, true, true, true, true, false, false, false, false, false, false, false] (fun a W => ∃ (sp : Bool) (Ap : Option Addr) (np cp : Nat) (sq : Bool) (Aq : Option Addr) (nq cq : Nat), a = ⟨#[zv sa (.slice Aa na ca), zv sb (.slice Ab nb cb), .pointer (some ⟨w.heap.size, 0, none⟩), .pointer (some ⟨w.heap.size + 1, 0, none⟩), .bool false, .pointer (some ⟨g0, 0, none⟩), .pointer (some ⟨g1, 0, none⟩), .pointer (some ⟨h0, 0, none⟩), .pointer (some ⟨h1, 0, none⟩), .bool true, undef, undef, undef, .bool true, .bool false, zv sa (.slice Aa na ca), zv sb (.slice Ab nb cb), .bool false, zv sa (.slice Aa na ca), zv sa (.slice Ax nx cx), zv sb (.slice Ab nb cb), zv sb (.slice Ay ny cy), zv sa (.slice Aa na ca), zv se (.slice Ae ne ce), zv sb (.slice Ab nb cb), zv sf (.slice Af nf cf), .pointer (some ⟨g0, 0, none⟩), .bool sa, .pointer (some ⟨g0, 1, none⟩), .slice Ax nx cx, zv s30 (.slice A30 n30 c30), zv se (.slice Ae ne ce), v32, .bool true, .bool true, zv sa (.slice Ax nx cx), zv s36 (.slice A36 n36 c36), zv se (.slice Ae ne ce), v38, v39, .bool true, .bool true, .bool true, zv sa (.slice Ax nx cx), .int .i64 (zsg ai), zv se (.slice Ae ne ce), .int .i64 (zsg ai), .bool true, .bool true, .bool true, zv sa (.slice Ax nx cx), zv sb (.slice Ay ny cy), .int .i64 (cmpZ ai bi), zv se (.slice Ae ne ce), zv sf (.slice Af nf cf), .int .i64 (cmpZ ai bi), .bool true, .bool true, zv sa (.slice Ax nx cx), zv sb (.slice Ay ny cy), zv sp (.slice Ap np cp), zv sa (.slice Ax nx cx), zv sb (.slice Ay ny cy), zv sq (.slice Aq nq cq), zv sa (.slice Ax nx cx), zv sb (.slice Ay ny cy), undef, undef, undef, undef, undef, undef, undef, undef, undef, undef, undef, undef, undef, undef, undef, undef, undef, undef, undef, undef, undef, undef, undef, undef, undef, undef, undef, undef, undef, undef, undef, undef, undef, undef, undef, undef, undef, undef, undef, undef, undef, undef, undef, undef, undef, undef, undef, undef, undef, undef, undef, undef], []⟩ ∧ Sg M.drew.heap.size M.drew W [zblk, zblk, zblk] [none, none, none] (fun W => ((True ∧ (Zi W (zv sp (.slice Ap np cp)) (ai + bi) (12 + 1) ∧ Ows W M.heap.size (.slice Ap np cp) (cn Q (ai + bi).natAbs))) ∧ (Zi W (zv sq (.slice Aq nq cq)) (ai - bi) (12 + 1) ∧ (Ows W M.heap.size (.slice Aq nq cq) (cn Q (ai - bi).natAbs) ∧ Dj (cn Q (ai + bi).natAbs) (.slice Ap np cp) (.slice Aq nq cq)))))) ?_ (fun Hs2000 => ?_)
          · rintro a W ⟨sp, Ap, np, cp, sq, Aq, nq, cq, rfl, st0⟩
            have hHeld := st0.1
            have st := hide st0
            clear st0
            refine wpAnyH_ready (rs := [8, 9, 10, 11]) (by kernel_rfl) (by simp) ?_
            refine AllReadyH.cons rfl (fun K hK => ?_) ?_
            · go_simp
              go_at_call 22
              refine Calls.mono (zmul_oa (K := 24) (HA.out _ _ _ _ (R.out.2.2.1.step st.out.1)) (HBB.out _ _ _ _ (R.out.2.2.2.step st.out.1)) (by omega) (by omega) KM.out) ?_
              rintro e wx ⟨sr, Ar, nr, cr, rfl, hz9, ow9, bx⟩
              have tx := And.intro hz9 (And.intro (ow9.mono (show M.heap.size ≤ W.heap.size from st.out.1.size)).ows (And.intro (Ows.fresh st.out.2.2.1.1.2.2 ow9) (Ows.fresh st.out.2.2.1.2.2.1 ow9)))
              clear hz9 ow9
              try dsimp only
              have st2 := Sg.call (G := fun W => (Zi W (zv sr (.slice Ar nr cr)) (ai * bi) (24) ∧ (Ows W M.heap.size (.slice Ar nr cr) (cn Q (ai * bi).natAbs) ∧ (Dj (cn Q (ai + bi).natAbs) (.slice Ap np cp) (.slice Ar nr cr) ∧ Dj (cn Q (ai - bi).natAbs) (.slice Aq nq cq) (.slice Ar nr cr))))) st.out bx (Firm2.and (Firm2.and Firm2.yes (Firm2.and (Firm2.zi _ _ _) (Firm2.ows _ _ _))) (Firm2.and (Firm2.zi _ _ _) (Firm2.and (Firm2.ows _ _ _) (Firm2.any _)))) tx
              have hSt := hide st2
              refine hK.out _ _ st2.1 (fun hHeld => ?_)
              clear hK K st2
              (try simp only [Act.put, List.setIfInBounds_toArray, List.set_cons_zero, List.set_cons_succ])
              exact Hs3000.out _ _ ⟨sp, Ap, np, cp, sq, Aq, nq, cq, sr, Ar, nr, cr, rfl, hSt.out⟩
            refine AllReadyH.cons rfl (fun K hK => ?_) ?_
            · go_simp
              have st2 := Sg.make st.out (Firm2.and (Firm2.and Firm2.yes (Firm2.and (Firm2.zi _ _ _) (Firm2.ows _ _ _))) (Firm2.and (Firm2.zi _ _ _) (Firm2.and (Firm2.ows _ _ _) (Firm2.any _)))) 0 _ rfl (by simp)
              refine hK.out _ _ st2.1 (fun hHeld => ?_)
              (try simp only [Act.put, List.setIfInBounds_toArray, List.set_cons_zero, List.set_cons_succ])
              exact Hs2100.out _ _ ⟨sp, Ap, np, cp, sq, Aq, nq, cq, W.heap.size, rfl, st2⟩
            refine AllReadyH.cons rfl (fun K hK => ?_) ?_
            · go_simp
              have st2 := Sg.make st.out (Firm2.and (Firm2.and Firm2.yes (Firm2.and (Firm2.zi _ _ _) (Firm2.ows _ _ _))) (Firm2.and (Firm2.zi _ _ _) (Firm2.and (Firm2.ows _ _ _) (Firm2.any _)))) 1 _ rfl (by simp)
              refine hK.out _ _ st2.1 (fun hHeld => ?_)
              (try simp only [Act.put, List.setIfInBounds_toArray, List.set_cons_zero, List.set_cons_succ])
              exact Hs2010.out _ _ ⟨sp, Ap, np, cp, sq, Aq, nq, cq, W.heap.size, rfl, st2⟩
            refine AllReadyH.cons rfl (fun K hK => ?_) ?_
            · go_simp
              have st2 := Sg.make st.out (Firm2.and (Firm2.and Firm2.yes (Firm2.and (Firm2.zi _ _ _) (Firm2.ows _ _ _))) (Firm2.and (Firm2.zi _ _ _) (Firm2.and (Firm2.ows _ _ _) (Firm2.any _)))) 2 _ rfl (by simp)
              refine hK.out _ _ st2.1 (fun hHeld => ?_)
              (try simp only [Act.put, List.setIfInBounds_toArray, List.set_cons_zero, List.set_cons_succ])
              exact Hs2001.out _ _ ⟨sp, Ap, np, cp, sq, Aq, nq, cq, W.heap.size, rfl, st2⟩
            exact AllReadyH.nil
          refine wpAnyH_with 5 #[true, true, true, true, true, false, true, true, false, true, true, true, false, false, false] (fun a W => ∃ (sp : Bool) (Ap : Option Addr) (np cp : Nat) (l0 : Nat) (l1 : Nat) (l2 : Nat), a = ⟨#[zv sa (.slice Aa na ca), zv sb (.slice Ab nb cb), .pointer (some ⟨w.heap.size, 0, none⟩), .pointer (some ⟨w.heap.size + 1, 0, none⟩), .bool false, .pointer (some ⟨g0, 0, none⟩), .pointer (some ⟨g1, 0, none⟩), .pointer (some ⟨h0, 0, none⟩), .pointer (some ⟨h1, 0, none⟩), .bool true, .pointer (some ⟨l0, 0, none⟩), .pointer (some ⟨l1, 0, none⟩), .pointer (some ⟨l2, 0, none⟩), .bool true, .bool false, zv sa (.slice Aa na ca), zv sb (.slice Ab nb cb), .bool false, zv sa (.slice Aa na ca), zv sa (.slice Ax nx cx), zv sb (.slice Ab nb cb), zv sb (.slice Ay ny cy), zv sa (.slice Aa na ca), zv se (.slice Ae ne ce), zv sb (.slice Ab nb cb), zv sf (.slice Af nf cf), .pointer (some ⟨g0, 0, none⟩), .bool sa, .pointer (some ⟨g0, 1, none⟩), .slice Ax nx cx, zv s30 (.slice A30 n30 c30), zv se (.slice Ae ne ce), v32, .bool true, .bool true, zv sa (.slice Ax nx cx), zv s36 (.slice A36 n36 c36), zv se (.slice Ae ne ce), v38, v39, .bool true, .bool true, .bool true, zv sa (.slice Ax nx cx), .int .i64 (zsg ai), zv se (.slice Ae ne ce), .int .i64 (zsg ai), .bool true, .bool true, .bool true, zv sa (.slice Ax nx cx), zv sb (.slice Ay ny cy), .int .i64 (cmpZ ai bi), zv se (.slice Ae ne ce), zv sf (.slice Af nf cf), .int .i64 (cmpZ ai bi), .bool true, .bool true, zv sa (.slice Ax nx cx), zv sb (.slice Ay ny cy), zv sp (.slice Ap np cp), zv sa (.slice Ax nx cx), zv sb (.slice Ay ny cy), undef, zv sa (.slice Ax nx cx), zv sb (.slice Ay ny cy), undef, undef, undef, undef, undef, undef, undef, undef, undef, undef, undef, undef, undef, undef, undef, undef, undef, undef, undef, undef, undef, undef, undef, undef, undef, undef, undef, undef, undef, undef, undef, undef, undef, undef, undef, undef, undef, undef, undef, undef, undef, undef, undef, undef, undef, undef, undef, undef, undef, undef, undef, undef], []⟩ ∧ Sg M.drew.heap.size M.drew W [zblk, zblk, zblk] [some l0, some l1, some l2] (fun W => (True ∧ (Zi W (zv sp (.slice Ap np cp)) (ai + bi) (12 + 1) ∧ Ows W M.heap.size (.slice Ap np cp) (cn Q (ai + bi).natAbs))))) ?_ (fun Hs1111 => ?_)
          · rintro a W ⟨sp, Ap, np, cp, l0, l1, l2, rfl, st0⟩
            have hHeld := st0.1
            have st := hide st0
            clear st0
            refine wpAnyH_ready (rs := [5]) (by kernel_rfl) (by simp) ?_
            refine AllReadyH.cons rfl (fun K hK => ?_) ?_
            · go_simp
              go_at_call 21
              refine Calls.mono (zsub_o (K := 12) (HA.out _ _ _ _ (R.out.2.2.1.step st.out.1)) (HBB.out _ _ _ _ (R.out.2.2.2.step st.out.1)) (by omega) (by omega) (by omega)) ?_
              rintro e wx ⟨sq, Aq, nq, cq, rfl, hz9, ow9, bx⟩
              have tx := And.intro hz9 (And.intro (ow9.mono (show M.heap.size ≤ W.heap.size from st.out.1.size)).ows (Ows.fresh st.out.2.2.1.2.2 ow9))
              clear hz9 ow9
              try dsimp only
              have st2 := Sg.call (G := fun W => (Zi W (zv sq (.slice Aq nq cq)) (ai - bi) (12 + 1) ∧ (Ows W M.heap.size (.slice Aq nq cq) (cn Q (ai - bi).natAbs) ∧ Dj (cn Q (ai + bi).natAbs) (.slice Ap np cp) (.slice Aq nq cq)))) st.out bx (Firm2.and Firm2.yes (Firm2.and (Firm2.zi _ _ _) (Firm2.ows _ _ _))) tx
              have hSt := hide st2
              refine hK.out _ _ st2.1 (fun hHeld => ?_)
              clear hK K st2
              (try simp only [Act.put, List.setIfInBounds_toArray, List.set_cons_zero, List.set_cons_succ])
              exact Hs2111.out _ _ ⟨sp, Ap, np, cp, sq, Aq, nq, cq, l0, l1, l2, rfl, hSt.out⟩
            exact AllReadyH.nil
          refine wpAnyH_with 6 #[true, true, true, true, true, false, true, true, false, true, true, false, false, false, false] (fun a W => ∃ (sp : Bool) (Ap : Option Addr) (np cp : Nat) (l0 : Nat) (l1 : Nat), a = ⟨#[zv sa (.slice Aa na ca), zv sb (.slice Ab nb cb), .pointer (some ⟨w.heap.size, 0, none⟩), .pointer (some ⟨w.heap.size + 1, 0, none⟩), .bool false, .pointer (some ⟨g0, 0, none⟩), .pointer (some ⟨g1, 0, none⟩), .pointer (some ⟨h0, 0, none⟩), .pointer (some ⟨h1, 0, none⟩), .bool true, .pointer (some ⟨l0, 0, none⟩), .pointer (some ⟨l1, 0, none⟩), undef, .bool true, .bool false, zv sa (.slice Aa na ca), zv sb (.slice Ab nb cb), .bool false, zv sa (.slice Aa na ca), zv sa (.slice Ax nx cx), zv sb (.slice Ab nb cb), zv sb (.slice Ay ny cy), zv sa (.slice Aa na ca), zv se (.slice Ae ne ce), zv sb (.slice Ab nb cb), zv sf (.slice Af nf cf), .pointer (some ⟨g0, 0, none⟩), .bool sa, .pointer (some ⟨g0, 1, none⟩), .slice Ax nx cx, zv s30 (.slice A30 n30 c30), zv se (.slice Ae ne ce), v32, .bool true, .bool true, zv sa (.slice Ax nx cx), zv s36 (.slice A36 n36 c36), zv se (.slice Ae ne ce), v38, v39, .bool true, .bool true, .bool true, zv sa (.slice Ax nx cx), .int .i64 (zsg ai), zv se (.slice Ae ne ce), .int .i64 (zsg ai), .bool true, .bool true, .bool true, zv sa (.slice Ax nx cx), zv sb (.slice Ay ny cy), .int .i64 (cmpZ ai bi), zv se (.slice Ae ne ce), zv sf (.slice Af nf cf), .int .i64 (cmpZ ai bi), .bool true, .bool true, zv sa (.slice Ax nx cx), zv sb (.slice Ay ny cy), zv sp (.slice Ap np cp), zv sa (.slice Ax nx cx), zv sb (.slice Ay ny cy), undef, zv sa (.slice Ax nx cx), zv sb (.slice Ay ny cy), undef, undef, undef, undef, undef, undef, undef, undef, undef, undef, undef, undef, undef, undef, undef, undef, undef, undef, undef, undef, undef, undef, undef, undef, undef, undef, undef, undef, undef, undef, undef, undef, undef, undef, undef, undef, undef, undef, undef, undef, undef, undef, undef, undef, undef, undef, undef, undef, undef, undef, undef, undef], []⟩ ∧ Sg M.drew.heap.size M.drew W [zblk, zblk, zblk] [some l0, some l1, none] (fun W => (True ∧ (Zi W (zv sp (.slice Ap np cp)) (ai + bi) (12 + 1) ∧ Ows W M.heap.size (.slice Ap np cp) (cn Q (ai + bi).natAbs))))) ?_ (fun Hs1110 => ?_)
          · rintro a W ⟨sp, Ap, np, cp, l0, l1, rfl, st0⟩
            have hHeld := st0.1
            have st := hide st0
            clear st0
            refine wpAnyH_ready (rs := [5, 11]) (by kernel_rfl) (by simp) ?_
            refine AllReadyH.cons rfl (fun K hK => ?_) ?_
            · go_simp
              go_at_call 21
              refine Calls.mono (zsub_o (K := 12) (HA.out _ _ _ _ (R.out.2.2.1.step st.out.1)) (HBB.out _ _ _ _ (R.out.2.2.2.step st.out.1)) (by omega) (by omega) (by omega)) ?_
              rintro e wx ⟨sq, Aq, nq, cq, rfl, hz9, ow9, bx⟩
              have tx := And.intro hz9 (And.intro (ow9.mono (show M.heap.size ≤ W.heap.size from st.out.1.size)).ows (Ows.fresh st.out.2.2.1.2.2 ow9))
              clear hz9 ow9
              try dsimp only
              have st2 := Sg.call (G := fun W => (Zi W (zv sq (.slice Aq nq cq)) (ai - bi) (12 + 1) ∧ (Ows W M.heap.size (.slice Aq nq cq) (cn Q (ai - bi).natAbs) ∧ Dj (cn Q (ai + bi).natAbs) (.slice Ap np cp) (.slice Aq nq cq)))) st.out bx (Firm2.and Firm2.yes (Firm2.and (Firm2.zi _ _ _) (Firm2.ows _ _ _))) tx
              have hSt := hide st2
              refine hK.out _ _ st2.1 (fun hHeld => ?_)
              clear hK K st2
              (try simp only [Act.put, List.setIfInBounds_toArray, List.set_cons_zero, List.set_cons_succ])
              exact Hs2110.out _ _ ⟨sp, Ap, np, cp, sq, Aq, nq, cq, l0, l1, rfl, hSt.out⟩
            refine AllReadyH.cons rfl (fun K hK => ?_) ?_
            · go_simp
              have st2 := Sg.make st.out (Firm2.and Firm2.yes (Firm2.and (Firm2.zi _ _ _) (Firm2.ows _ _ _))) 2 _ rfl (by simp)
              refine hK.out _ _ st2.1 (fun hHeld => ?_)
              (try simp only [Act.put, List.setIfInBounds_toArray, List.set_cons_zero, List.set_cons_succ])
              exact Hs1111.out _ _ ⟨sp, Ap, np, cp, l0, l1, W.heap.size, rfl, st2⟩
            exact AllReadyH.nil
          refine wpAnyH_with 6 #[true, true, true, true, true, false, true, true, false, true, false, true, false, false, false] (fun a W => ∃ (sp : Bool) (Ap : Option Addr) (np cp : Nat) (l0 : Nat) (l2 : Nat), a = ⟨#[zv sa (.slice Aa na ca), zv sb (.slice Ab nb cb), .pointer (some ⟨w.heap.size, 0, none⟩), .pointer (some ⟨w.heap.size + 1, 0, none⟩), .bool false, .pointer (some ⟨g0, 0, none⟩), .pointer (some ⟨g1, 0, none⟩), .pointer (some ⟨h0, 0, none⟩), .pointer (some ⟨h1, 0, none⟩), .bool true, .pointer (some ⟨l0, 0, none⟩), undef, .pointer (some ⟨l2, 0, none⟩), .bool true, .bool false, zv sa (.slice Aa na ca), zv sb (.slice Ab nb cb), .bool false, zv sa (.slice Aa na ca), zv sa (.slice Ax nx cx), zv sb (.slice Ab nb cb), zv sb (.slice Ay ny cy), zv sa (.slice Aa na ca), zv se (.slice Ae ne ce), zv sb (.slice Ab nb cb), zv sf (.slice Af nf cf), .pointer (some ⟨g0, 0, none⟩), .bool sa, .pointer (some ⟨g0, 1, none⟩), .slice Ax nx cx, zv s30 (.slice A30 n30 c30), zv se (.slice Ae ne ce), v32, .bool true, .bool true, zv sa (.slice Ax nx cx), zv s36 (.slice A36 n36 c36), zv se (.slice Ae ne ce), v38, v39, .bool true, .bool true, .bool true, zv sa (.slice Ax nx cx), .int .i64 (zsg ai), zv se (.slice Ae ne ce), .int .i64 (zsg ai), .bool true, .bool true, .bool true, zv sa (.slice Ax nx cx), zv sb (.slice Ay ny cy), .int .i64 (cmpZ ai bi), zv se (.slice Ae ne ce), zv sf (.slice Af nf cf), .int .i64 (cmpZ ai bi), .bool true, .bool true, zv sa (.slice Ax nx cx), zv sb (.slice Ay ny cy), zv sp (.slice Ap np cp), zv sa (.slice Ax nx cx), zv sb (.slice Ay ny cy), undef, zv sa (.slice Ax nx cx), zv sb (.slice Ay ny cy), undef, undef, undef, undef, undef, undef, undef, undef, undef, undef, undef, undef, undef, undef, undef, undef, undef, undef, undef, undef, undef, undef, undef, undef, undef, undef, undef, undef, undef, undef, undef, undef, undef, undef, undef, undef, undef, undef, undef, undef, undef, undef, undef, undef, undef, undef, undef, undef, undef, undef, undef, undef], []⟩ ∧ Sg M.drew.heap.size M.drew W [zblk, zblk, zblk] [some l0, none, some l2] (fun W => (True ∧ (Zi W (zv sp (.slice Ap np cp)) (ai + bi) (12 + 1) ∧ Ows W M.heap.size (.slice Ap np cp) (cn Q (ai + bi).natAbs))))) ?_ (fun Hs1101 => ?_)
          · rintro a W ⟨sp, Ap, np, cp, l0, l2, rfl, st0⟩
            have hHeld := st0.1
            have st := hide st0
            clear st0
            refine wpAnyH_ready (rs := [5, 10]) (by kernel_rfl) (by simp) ?_
            refine AllReadyH.cons rfl (fun K hK => ?_) ?_
            · go_simp
              go_at_call 21
              refine Calls.mono (zsub_o (K := 12) (HA.out _ _ _ _ (R.out.2.2.1.step st.out.1)) (HBB.out _ _ _ _ (R.out.2.2.2.step st.out.1)) (by omega) (by omega) (by omega)) ?_
              rintro e wx ⟨sq, Aq, nq, cq, rfl, hz9, ow9, bx⟩
              have tx := And.intro hz9 (And.intro (ow9.mono (show M.heap.size ≤ W.heap.size from st.out.1.size)).ows (Ows.fresh st.out.2.2.1.2.2 ow9))
              clear hz9 ow9
              try dsimp only
              have st2 := Sg.call (G := fun W => (Zi W (zv sq (.slice Aq nq cq)) (ai - bi) (12 + 1) ∧ (Ows W M.heap.size (.slice Aq nq cq) (cn Q (ai - bi).natAbs) ∧ Dj (cn Q (ai + bi).natAbs) (.slice Ap np cp) (.slice Aq nq cq)))) st.out bx (Firm2.and Firm2.yes (Firm2.and (Firm2.zi _ _ _) (Firm2.ows _ _ _))) tx
              have hSt := hide st2
              refine hK.out _ _ st2.1 (fun hHeld => ?_)
              clear hK K st2
              (try simp only [Act.put, List.setIfInBounds_toArray, List.set_cons_zero, List.set_cons_succ])
              exact Hs2101.out _ _ ⟨sp, Ap, np, cp, sq, Aq, nq, cq, l0, l2, rfl, hSt.out⟩
            refine AllReadyH.cons rfl (fun K hK => ?_) ?_
            · go_simp
              have st2 := Sg.make st.out (Firm2.and Firm2.yes (Firm2.and (Firm2.zi _ _ _) (Firm2.ows _ _ _))) 1 _ rfl (by simp)
              refine hK.out _ _ st2.1 (fun hHeld => ?_)
              (try simp only [Act.put, List.setIfInBounds_toArray, List.set_cons_zero, List.set_cons_succ])
              exact Hs1111.out _ _ ⟨sp, Ap, np, cp, l0, W.heap.size, l2, rfl, st2⟩
            exact AllReadyH.nil
          refine wpAnyH_with 7 #[true, true, true, true, true, false, true, true, false, true, false, false, false, false, false] (fun a W => ∃ (sp : Bool) (Ap : Option Addr) (np cp : Nat) (l0 : Nat), a = ⟨#[zv sa (.slice Aa na ca), zv sb (.slice Ab nb cb), .pointer (some ⟨w.heap.size, 0, none⟩), .pointer (some ⟨w.heap.size + 1, 0, none⟩), .bool false, .pointer (some ⟨g0, 0, none⟩), .pointer (some ⟨g1, 0, none⟩), .pointer (some ⟨h0, 0, none⟩), .pointer (some ⟨h1, 0, none⟩), .bool true, .pointer (some ⟨l0, 0, none⟩), undef, undef, .bool true, .bool false, zv sa (.slice Aa na ca), zv sb (.slice Ab nb cb), .bool false, zv sa (.slice Aa na ca), zv sa (.slice Ax nx cx), zv sb (.slice Ab nb cb), zv sb (.slice Ay ny cy), zv sa (.slice Aa na ca), zv se (.slice Ae ne ce), zv sb (.slice Ab nb cb), zv sf (.slice Af nf cf), .pointer (some ⟨g0, 0, none⟩), .bool sa, .pointer (some ⟨g0, 1, none⟩), .slice Ax nx cx, zv s30 (.slice A30 n30 c30), zv se (.slice Ae ne ce), v32, .bool true, .bool true, zv sa (.slice Ax nx cx), zv s36 (.slice A36 n36 c36), zv se (.slice Ae ne ce), v38, v39, .bool true, .bool true, .bool true, zv sa (.slice Ax nx cx), .int .i64 (zsg ai), zv se (.slice Ae ne ce), .int .i64 (zsg ai), .bool true, .bool true, .bool true, zv sa (.slice Ax nx cx), zv sb (.slice Ay ny cy), .int .i64 (cmpZ ai bi), zv se (.slice Ae ne ce), zv sf (.slice Af nf cf), .int .i64 (cmpZ ai bi), .bool true, .bool true, zv sa (.slice Ax nx cx), zv sb (.slice Ay ny cy), zv sp (.slice Ap np cp), zv sa (.slice Ax nx cx), zv sb (.slice Ay ny cy), undef, zv sa (.slice Ax nx cx), zv sb (.slice Ay ny cy), undef, undef, undef, undef, undef, undef, undef, undef, undef, undef, undef, undef, undef, undef, undef, undef, undef, undef, undef, undef, undef, undef, undef, undef, undef, undef, undef, undef, undef, undef, undef, undef, undef, undef, undef, undef, undef, undef, undef, undef, undef, undef, undef, undef, undef, undef, undef, undef, undef, undef, undef, undef], []⟩ ∧ Sg M.drew.heap.size M.drew W [zblk, zblk, zblk] [some l0, none, none] (fun W => (True ∧ (Zi W (zv sp (.slice Ap np cp)) (ai + bi) (12 + 1) ∧ Ows W M.heap.size (.slice Ap np cp) (cn Q (ai + bi).natAbs))))) ?_ (fun Hs1100 => ?_)
          · rintro a W ⟨sp, Ap, np, cp, l0, rfl, st0⟩
            have hHeld := st0.1
            have st := hide st0
            clear st0
            refine wpAnyH_ready (rs := [5, 10, 11]) (by kernel_rfl) (by simp) ?_
            refine AllReadyH.cons rfl (fun K hK => ?_) ?_
            · go_simp
              go_at_call 21
              refine Calls.mono (zsub_o (K := 12) (HA.out _ _ _ _ (R.out.2.2.1.step st.out.1)) (HBB.out _ _ _ _ (R.out.2.2.2.step st.out.1)) (by omega) (by omega) (by omega)) ?_
              rintro e wx ⟨sq, Aq, nq, cq, rfl, hz9, ow9, bx⟩
              have tx := And.intro hz9 (And.intro (ow9.mono (show M.heap.size ≤ W.heap.size from st.out.1.size)).ows (Ows.fresh st.out.2.2.1.2.2 ow9))
              clear hz9 ow9
              try dsimp only
              have st2 := Sg.call (G := fun W => (Zi W (zv sq (.slice Aq nq cq)) (ai - bi) (12 + 1) ∧ (Ows W M.heap.size (.slice Aq nq cq) (cn Q (ai - bi).natAbs) ∧ Dj (cn Q (ai + bi).natAbs) (.slice Ap np cp) (.slice Aq nq cq)))) st.out bx (Firm2.and Firm2.yes (Firm2.and (Firm2.zi _ _ _) (Firm2.ows _ _ _))) tx
              have hSt := hide st2
              refine hK.out _ _ st2.1 (fun hHeld => ?_)
              clear hK K st2
              (try simp only [Act.put, List.setIfInBounds_toArray, List.set_cons_zero, List.set_cons_succ])
              exact Hs2100.out _ _ ⟨sp, Ap, np, cp, sq, Aq, nq, cq, l0, rfl, hSt.out⟩
            refine AllReadyH.cons rfl (fun K hK => ?_) ?_
            · go_simp
              have st2 := Sg.make st.out (Firm2.and Firm2.yes (Firm2.and (Firm2.zi _ _ _) (Firm2.ows _ _ _))) 1 _ rfl (by simp)
              refine hK.out _ _ st2.1 (fun hHeld => ?_)
              (try simp only [Act.put, List.setIfInBounds_toArray, List.set_cons_zero, List.set_cons_succ])
              exact Hs1110.out _ _ ⟨sp, Ap, np, cp, l0, W.heap.size, rfl, st2⟩
            refine AllReadyH.cons rfl (fun K hK => ?_) ?_
            · go_simp
              have st2 := Sg.make st.out (Firm2.and Firm2.yes (Firm2.and (Firm2.zi _ _ _) (Firm2.ows _ _ _))) 2 _ rfl (by simp)
              refine hK.out _ _ st2.1 (fun hHeld => ?_)
              (try simp only [Act.put, List.setIfInBounds_toArray, List.set_cons_zero, List.set_cons_succ])
              exact Hs1101.out _ _ ⟨sp, Ap, np, cp, l0, W.heap.size, rfl, st2⟩
            exact AllReadyH.nil
          refine wpAnyH_with 6 #[true, true, true, true, true, false, true, true, false, false, true, true, false, false, false] (fun a W => ∃ (sp : Bool) (Ap : Option Addr) (np cp : Nat) (l1 : Nat) (l2 : Nat), a = ⟨#[zv sa (.slice Aa na ca), zv sb (.slice Ab nb cb), .pointer (some ⟨w.heap.size, 0, none⟩), .pointer (some ⟨w.heap.size + 1, 0, none⟩), .bool false, .pointer (some ⟨g0, 0, none⟩), .pointer (some ⟨g1, 0, none⟩), .pointer (some ⟨h0, 0, none⟩), .pointer (some ⟨h1, 0, none⟩), .bool true, undef, .pointer (some ⟨l1, 0, none⟩), .pointer (some ⟨l2, 0, none⟩), .bool true, .bool false, zv sa (.slice Aa na ca), zv sb (.slice Ab nb cb), .bool false, zv sa (.slice Aa na ca), zv sa (.slice Ax nx cx), zv sb (.slice Ab nb cb), zv sb (.slice Ay ny cy), zv sa (.slice Aa na ca), zv se (.slice Ae ne ce), zv sb (.slice Ab nb cb), zv sf (.slice Af nf cf), .pointer (some ⟨g0, 0, none⟩), .bool sa, .pointer (some ⟨g0, 1, none⟩), .slice Ax nx cx, zv s30 (.slice A30 n30 c30), zv se (.slice Ae ne ce), v32, .bool true, .bool true, zv sa (.slice Ax nx cx), zv s36 (.slice A36 n36 c36), zv se (.slice Ae ne ce), v38, v39, .bool true, .bool true, .bool true, zv sa (.slice Ax nx cx), .int .i64 (zsg ai), zv se (.slice Ae ne ce), .int .i64 (zsg ai), .bool true, .bool true, .bool true, zv sa (.slice Ax nx cx), zv sb (.slice Ay ny cy), .int .i64 (cmpZ ai bi), zv se (.slice Ae ne ce), zv sf (.slice Af nf cf), .int .i64 (cmpZ ai bi), .bool true, .bool true, zv sa (.slice Ax nx cx), zv sb (.slice Ay ny cy), zv sp (.slice Ap np cp), zv sa (.slice Ax nx cx), zv sb (.slice Ay ny cy), undef, zv sa (.slice Ax nx cx), zv sb (.slice Ay ny cy), undef, undef, undef, undef, undef, undef, undef, undef, undef, undef, undef, undef, undef, undef, undef, undef, undef, undef, undef, undef, undef, undef, undef, undef, undef, undef, undef, undef, undef, undef, undef, undef, undef, undef, undef, undef, undef, undef, undef, undef, undef, undef, undef, undef, undef, undef, undef, undef, undef, undef, undef, undef], []⟩ ∧ Sg M.drew.heap.size M.drew W [zblk, zblk, zblk] [none, some l1, some l2] (fun W => (True ∧ (Zi W (zv sp (.slice Ap np cp)) (ai + bi) (12 + 1) ∧ Ows W M.heap.size (.slice Ap np cp) (cn Q (ai + bi).natAbs))))) ?_ (fun Hs1011 => ?_)
          · rintro a W ⟨sp, Ap, np, cp, l1, l2, rfl, st0⟩
            have hHeld := st0.1
            have st := hide st0
            clear st0
            refine wpAnyH_ready (rs := [5, 9]) (by kernel_rfl) (by simp) ?_
            refine AllReadyH.cons rfl (fun K hK => ?_) ?_
            · go_simp
              go_at_call 21
              refine Calls.mono (zsub_o (K := 12) (HA.out _ _ _ _ (R.out.2.2.1.step st.out.1)) (HBB.out _ _ _ _ (R.out.2.2.2.step st.out.1)) (by omega) (by omega) (by omega)) ?_
              rintro e wx ⟨sq, Aq, nq, cq, rfl, hz9, ow9, bx⟩
              have tx := And.intro hz9 (And.intro (ow9.mono (show M.heap.size ≤ W.heap.size from st.out.1.size)).ows (Ows.fresh st.out.2.2.1.2.2 ow9))
              clear hz9 ow9
              try dsimp only
              have st2 := Sg.call (G := fun W => (Zi W (zv sq (.slice Aq nq cq)) (ai - bi) (12 + 1) ∧ (Ows W M.heap.size (.slice Aq nq cq) (cn Q (ai - bi).natAbs) ∧ Dj (cn Q (ai + bi).natAbs) (.slice Ap np cp) (.slice Aq nq cq)))) st.out bx (Firm2.and Firm2.yes (Firm2.and (Firm2.zi _ _ _) (Firm2.ows _ _ _))) tx
              have hSt := hide st2
              refine hK.out _ _ st2.1 (fun hHeld => ?_)
              clear hK K st2
              (try simp only [Act.put, List.setIfInBounds_toArray, List.set_cons_zero, List.set_cons_succ])
              exact Hs2011.out _ _ ⟨sp, Ap, np, cp, sq, Aq, nq, cq, l1, l2, rfl, hSt.out⟩
            refine AllReadyH.cons rfl (fun K hK => ?_) ?_
            · go_simp
              have st2 := Sg.make st.out (Firm2.and Firm2.yes (Firm2.and (Firm2.zi _ _ _) (Firm2.ows _ _ _))) 0 _ rfl (by simp)
              refine hK.out _ _ st2.1 (fun hHeld => ?_)
              (try simp only [Act.put, List.setIfInBounds_toArray, List.set_cons_zero, List.set_cons_succ])
              exact Hs1111.out _ _ ⟨sp, Ap, np, cp, W.heap.size, l1, l2, rfl, st2⟩
            exact AllReadyH.nil
          refine wpAnyH_with 7 #[true, true, true, true, true, false, true, true, false, false, true, false, false, false, false] (fun a W => ∃ (sp : Bool) (Ap : Option Addr) (np cp : Nat) (l1 : Nat), a = ⟨#[zv sa (.slice Aa na ca), zv sb (.slice Ab nb cb), .pointer (some ⟨w.heap.size, 0, none⟩), .pointer (some ⟨w.heap.size + 1, 0, none⟩), .bool false, .pointer (some ⟨g0, 0, none⟩), .pointer (some ⟨g1, 0, none⟩), .pointer (some ⟨h0, 0, none⟩), .pointer (some ⟨h1, 0, none⟩), .bool true, undef, .pointer (some ⟨l1, 0, none⟩), undef, .bool true, .bool false, zv sa (.slice Aa na ca), zv sb (.slice Ab nb cb), .bool false, zv sa (.slice Aa na ca), zv sa (.slice Ax nx cx), zv sb (.slice Ab nb cb), zv sb (.slice Ay ny cy), zv sa (.slice Aa na ca), zv se (.slice Ae ne ce), zv sb (.slice Ab nb cb), zv sf (.slice Af nf cf), .pointer (some ⟨g0, 0, none⟩), .bool sa, .pointer (some ⟨g0, 1, none⟩), .slice Ax nx cx, zv s30 (.slice A30 n30 c30), zv se (.slice Ae ne ce), v32, .bool true, .bool true, zv sa (.slice Ax nx cx), zv s36 (.slice A36 n36 c36), zv se (.slice Ae ne ce), v38, v39, .bool true, .bool true, .bool true, zv sa (.slice Ax nx cx), .int .i64 (zsg ai), zv se (.slice Ae ne ce), .int .i64 (zsg ai), .bool true, .bool true, .bool true, zv sa (.slice Ax nx cx), zv sb (.slice Ay ny cy), .int .i64 (cmpZ ai bi), zv se (.slice Ae ne ce), zv sf (.slice Af nf cf), .int .i64 (cmpZ ai bi), .bool true, .bool true, zv sa (.slice Ax nx cx), zv sb (.slice Ay ny cy), zv sp (.slice Ap np cp), zv sa (.slice Ax nx cx), zv sb (.slice Ay ny cy), undef, zv sa (.slice Ax nx cx), zv sb (.slice Ay ny cy), undef, undef, undef, undef, undef, undef, undef, undef, undef, undef, undef, undef, undef, undef, undef, undef, undef, undef, undef, undef, undef, undef, undef, undef, undef, undef, undef, undef, undef, undef, undef, undef, undef, undef, undef, undef, undef, undef, undef, undef, undef, undef, undef, undef, undef, undef, undef, undef, undef, undef, undef, undef], []⟩ ∧ Sg M.drew.heap.size M.drew W [zblk, zblk, zblk] [none, some l1, none] (fun W => (True ∧ (Zi W (zv sp (.slice Ap np cp)) (ai + bi) (12 + 1) ∧ Ows W M.heap.size (.slice Ap np cp) (cn Q (ai + bi).natAbs))))) ?_ (fun Hs1010 => ?_)
          · rintro a W ⟨sp, Ap, np, cp, l1, rfl, st0⟩
            have hHeld := st0.1
            have st := hide st0
            clear st0
            refine wpAnyH_ready (rs := [5, 9, 11]) (by kernel_rfl) (by simp) ?_
            refine AllReadyH.cons rfl (fun K hK => ?_) ?_
            · go_simp
              go_at_call 21
              refine Calls.mono (zsub_o (K := 12) (HA.out _ _ _ _ (R.out.2.2.1.step st.out.1)) (HBB.out _ _ _ _ (R.out.2.2.2.step st.out.1)) (by omega) (by omega) (by omega)) ?_
              rintro e wx ⟨sq, Aq, nq, cq, rfl, hz9, ow9, bx⟩
              have tx := And.intro hz9 (And.intro (ow9.mono (show M.heap.size ≤ W.heap.size from st.out.1.size)).ows (Ows.fresh st.out.2.2.1.2.2 ow9))
              clear hz9 ow9
              try dsimp only
              have st2 := Sg.call (G := fun W => (Zi W (zv sq (.slice Aq nq cq)) (ai - bi) (12 + 1) ∧ (Ows W M.heap.size (.slice Aq nq cq) (cn Q (ai - bi).natAbs) ∧ Dj (cn Q (ai + bi).natAbs) (.slice Ap np cp) (.slice Aq nq cq)))) st.out bx (Firm2.and Firm2.yes (Firm2.and (Firm2.zi _ _ _) (Firm2.ows _ _ _))) tx
              have hSt := hide st2
              refine hK.out _ _ st2.1 (fun hHeld => ?_)
              clear hK K st2
              (try simp only [Act.put, List.setIfInBounds_toArray, List.set_cons_zero, List.set_cons_succ])
              exact Hs2010.out _ _ ⟨sp, Ap, np, cp, sq, Aq, nq, cq, l1, rfl, hSt.out⟩
            refine AllReadyH.cons rfl (fun K hK => ?_) ?_
            · go_simp
              have st2 := Sg.make st.out (Firm2.and Firm2.yes (Firm2.and (Firm2.zi _ _ _) (Firm2.ows _ _ _))) 0 _ rfl (by simp)
              refine hK.out _ _ st2.1 (fun hHeld => ?_)
              (try simp only [Act.put, List.setIfInBounds_toArray, List.set_cons_zero, List.set_cons_succ])
              exact Hs1110.out _ _ ⟨sp, Ap, np, cp, W.heap.size, l1, rfl, st2⟩
            refine AllReadyH.cons rfl (fun K hK => ?_) ?_
            · go_simp
              have st2 := Sg.make st.out (Firm2.and Firm2.yes (Firm2.and (Firm2.zi _ _ _) (Firm2.ows _ _ _))) 2 _ rfl (by simp)
              refine hK.out _ _ st2.1 (fun hHeld => ?_)
              (try simp only [Act.put, List.setIfInBounds_toArray, List.set_cons_zero, List.set_cons_succ])
              exact Hs1011.out _ _ ⟨sp, Ap, np, cp, l1, W.heap.size, rfl, st2⟩
            exact AllReadyH.nil
          refine wpAnyH_with 7 #[true, true, true, true, true, false, true, true, false, false, false, true, false, false, false] (fun a W => ∃ (sp : Bool) (Ap : Option Addr) (np cp : Nat) (l2 : Nat), a = ⟨#[zv sa (.slice Aa na ca), zv sb (.slice Ab nb cb), .pointer (some ⟨w.heap.size, 0, none⟩), .pointer (some ⟨w.heap.size + 1, 0, none⟩), .bool false, .pointer (some ⟨g0, 0, none⟩), .pointer (some ⟨g1, 0, none⟩), .pointer (some ⟨h0, 0, none⟩), .pointer (some ⟨h1, 0, none⟩), .bool true, undef, undef, .pointer (some ⟨l2, 0, none⟩), .bool true, .bool false, zv sa (.slice Aa na ca), zv sb (.slice Ab nb cb), .bool false, zv sa (.slice Aa na ca), zv sa (.slice Ax nx cx), zv sb (.slice Ab nb cb), zv sb (.slice Ay ny cy), zv sa (.slice Aa na ca), zv se (.slice Ae ne ce), zv sb (.slice Ab nb cb), zv sf (.slice Af nf cf), .pointer (some ⟨g0, 0, none⟩), .bool sa, .pointer (some ⟨g0, 1, none⟩), .slice Ax nx cx, zv s30 (.slice A30 n30 c30), zv se (.slice Ae ne ce), v32, .bool true, .bool true, zv sa (.slice Ax nx cx), zv s36 (.slice A36 n36 c36), zv se (.slice Ae ne ce), v38, v39, .bool true, .bool true, .bool true, zv sa (.slice Ax nx cx), .int .i64 (zsg ai), zv se (.slice Ae ne ce), .int .i64 (zsg ai), .bool true, .bool true, .bool true, zv sa (.slice Ax nx cx), zv sb (.slice Ay ny cy), .int .i64 (cmpZ ai bi), zv se (.slice Ae ne ce), zv sf (.slice Af nf cf), .int .i64 (cmpZ ai bi), .bool true, .bool true, zv sa (.slice Ax nx cx), zv sb (.slice Ay ny cy), zv sp (.slice Ap np cp), zv sa (.slice Ax nx cx), zv sb (.slice Ay ny cy), undef, zv sa (.slice Ax nx cx), zv sb (.slice Ay ny cy), undef, undef, undef, undef, undef, undef, undef, undef, undef, undef, undef, undef, undef, undef, undef, undef, undef, undef, undef, undef, undef, undef, undef, undef, undef, undef, undef, undef, undef, undef, undef, undef, undef, undef, undef, undef, undef, undef, undef, undef, undef, undef, undef, undef, undef, undef, undef, undef, undef, undef, undef, undef], []⟩ ∧ Sg M.drew.heap.size M.drew W [zblk, zblk, zblk] [none, none, some l2] (fun W => (True ∧ (Zi W (zv sp (.slice Ap np cp)) (ai + bi) (12 + 1) ∧ Ows W M.heap.size (.slice Ap np cp) (cn Q (ai + bi).natAbs))))) ?_ (fun Hs1001 => ?_)
          · rintro a W ⟨sp, Ap, np, cp, l2, rfl, st0⟩
            have hHeld := st0.1
            have st := hide st0
            clear st0
            refine wpAnyH_ready (rs := [5, 9, 10]) (by kernel_rfl) (by simp) ?_
            refine AllReadyH.cons rfl (fun K hK => ?_) ?_
            · go_simp
              go_at_call 21
              refine Calls.mono (zsub_o (K := 12) (HA.out _ _ _ _ (R.out.2.2.1.step st.out.1)) (HBB.out _ _ _ _ (R.out.2.2.2.step st.out.1)) (by omega) (by omega) (by omega)) ?_
              rintro e wx ⟨sq, Aq, nq, cq, rfl, hz9, ow9, bx⟩
              have tx := And.intro hz9 (And.intro (ow9.mono (show M.heap.size ≤ W.heap.size from st.out.1.size)).ows (Ows.fresh st.out.2.2.1.2.2 ow9))
              clear hz9 ow9
              try dsimp only
              have st2 := Sg.call (G := fun W => (Zi W (zv sq (.slice Aq nq cq)) (ai - bi) (12 + 1) ∧ (Ows W M.heap.size (.slice Aq nq cq) (cn Q (ai - bi).natAbs) ∧ Dj (cn Q (ai + bi).natAbs) (.slice Ap np cp) (.slice Aq nq cq)))) st.out bx (Firm2.and Firm2.yes (Firm2.and (Firm2.zi _ _ _) (Firm2.ows _ _ _))) tx
              have hSt := hide st2
              refine hK.out _ _ st2.1 (fun hHeld => ?_)
              clear hK K st2
              (try simp only [Act.put, List.setIfInBounds_toArray, List.set_cons_zero, List.set_cons_succ])
              exact Hs2001.out _ _ ⟨sp, Ap, np, cp, sq, Aq, nq, cq, l2, rfl, hSt.out⟩
            refine AllReadyH.cons rfl (fun K hK => ?_) ?_
            · go_simp
              have st2 := Sg.make st.out (Firm2.and Firm2.yes (Firm2.and (Firm2.zi _ _ _) (Firm2.ows _ _ _))) 0 _ rfl (by simp)
              refine hK.out _ _ st2.1 (fun hHeld => ?_)
              (try simp only [Act.put, List.setIfInBounds_toArray, List.set_cons_zero, List.set_cons_succ])
              exact Hs1101.out _ _ ⟨sp, Ap, np, cp, W.heap.size, l2, rfl, st2⟩
            refine AllReadyH.cons rfl (fun K hK => ?_) ?_
            · go_simp
              have st2 := Sg.make st.out (Firm2.and Firm2.yes (Firm2.and (Firm2.zi _ _ _) (Firm2.ows _ _ _))) 1 _ rfl (by simp)
              refine hK.out _ _ st2.1 (fun hHeld => ?_)
              (try simp only [Act.put, List.setIfInBounds_toArray, List.set_cons_zero, List.set_cons_succ])
              exact Hs1011.out _ _ ⟨sp, Ap, np, cp, W.heap.size, l2, rfl, st2⟩
            exact AllReadyH.nil
          refine wpAnyH_with 8 #[true, true, true, true, true, false, true, true, false, false, false, false, false, false, false] (fun a W => ∃ (sp : Bool) (Ap : Option Addr) (np cp : Nat), a = ⟨#[zv sa (.slice Aa na ca), zv sb (.slice Ab nb cb), .pointer (some ⟨w.heap.size, 0, none⟩), .pointer (some ⟨w.heap.size + 1, 0, none⟩), .bool false, .pointer (some ⟨g0, 0, none⟩), .pointer (some ⟨g1, 0, none⟩), .pointer (some ⟨h0, 0, none⟩), .pointer (some ⟨h1, 0, none⟩), .bool true, undef, undef, undef, .bool true, .bool false, zv sa (.slice Aa na ca), zv sb (.slice Ab nb cb), .bool false, zv sa (.slice Aa na ca), zv sa (.slice Ax nx cx), zv sb (.slice Ab nb cb), zv sb (.slice Ay ny cy), zv sa (.slice Aa na ca), zv se (.slice Ae ne ce), zv sb (.slice Ab nb cb), zv sf (.slice Af nf cf), .pointer (some ⟨g0, 0, none⟩), .bool sa, .pointer (some ⟨g0, 1, none⟩), .slice Ax nx cx, zv s30 (.slice A30 n30 c30), zv se (.slice Ae ne ce), v32, .bool true, .bool true, zv sa (.slice Ax nx cx), zv s36 (.slice A36 n36 c36), zv se (.slice Ae ne ce), v38, v39, .bool true, .bool true, .bool true, zv sa (.slice Ax nx cx), .int .i64 (zsg ai), zv se (.slice Ae ne ce), .int .i64 (zsg ai), .bool true, .bool true, .bool true, zv sa (.slice Ax nx cx), zv sb (.slice Ay ny cy), .int .i64 (cmpZ ai bi), zv se (.slice Ae ne ce), zv sf (.slice Af nf cf), .int .i64 (cmpZ ai bi), .bool true, .bool true, zv sa (.slice Ax nx cx), zv sb (.slice Ay ny cy), zv sp (.slice Ap np cp), zv sa (.slice Ax nx cx), zv sb (.slice Ay ny cy), undef, zv sa (.slice Ax nx cx), zv sb (.slice Ay ny cy), undef, undef, undef, undef, undef, undef, undef, undef, undef, undef, undef, undef, undef, undef, undef, undef, undef, undef, undef, undef, undef, undef, undef, undef, undef, undef, undef, undef, undef, undef, undef, undef, undef, undef, undef, undef, undef, undef, undef, undef, undef, undef, undef, undef, undef, undef, undef, undef, undef, undef, undef, undef], []⟩ ∧ Sg M.drew.heap.size M.drew W [zblk, zblk, zblk] [none, none, none] (fun W => (True ∧ (Zi W (zv sp (.slice Ap np cp)) (ai + bi) (12 + 1) ∧ Ows W M.heap.size (.slice Ap np cp) (cn Q (ai + bi).natAbs))))) ?_ (fun Hs1000 => ?_)
          · rintro a W ⟨sp, Ap, np, cp, rfl, st0⟩
            have hHeld := st0.1
            have st := hide st0
            clear st0
            refine wpAnyH_ready (rs := [5, 9, 10, 11]) (by kernel_rfl) (by simp) ?_
            refine AllReadyH.cons rfl (fun K hK => ?_) ?_
            · go_simp
              go_at_call 21
              refine Calls.mono (zsub_o (K := 12) (HA.out _ _ _ _ (R.out.2.2.1.step st.out.1)) (HBB.out _ _ _ _ (R.out.2.2.2.step st.out.1)) (by omega) (by omega) (by omega)) ?_
              rintro e wx ⟨sq, Aq, nq, cq, rfl, hz9, ow9, bx⟩
              have tx := And.intro hz9 (And.intro (ow9.mono (show M.heap.size ≤ W.heap.size from st.out.1.size)).ows (Ows.fresh st.out.2.2.1.2.2 ow9))
              clear hz9 ow9
              try dsimp only
              have st2 := Sg.call (G := fun W => (Zi W (zv sq (.slice Aq nq cq)) (ai - bi) (12 + 1) ∧ (Ows W M.heap.size (.slice Aq nq cq) (cn Q (ai - bi).natAbs) ∧ Dj (cn Q (ai + bi).natAbs) (.slice Ap np cp) (.slice Aq nq cq)))) st.out bx (Firm2.and Firm2.yes (Firm2.and (Firm2.zi _ _ _) (Firm2.ows _ _ _))) tx
              have hSt := hide st2
              refine hK.out _ _ st2.1 (fun hHeld => ?_)
              clear hK K st2
              (try simp only [Act.put, List.setIfInBounds_toArray, List.set_cons_zero, List.set_cons_succ])
              exact Hs2000.out _ _ ⟨sp, Ap, np, cp, sq, Aq, nq, cq, rfl, hSt.out⟩
            refine AllReadyH.cons rfl (fun K hK => ?_) ?_
            · go_simp
              have st2 := Sg.make st.out (Firm2.and Firm2.yes (Firm2.and (Firm2.zi _ _ _) (Firm2.ows _ _ _))) 0 _ rfl (by simp)
              refine hK.out _ _ st2.1 (fun hHeld => ?_)
              (try simp only [Act.put, List.setIfInBounds_toArray, List.set_cons_zero, List.set_cons_succ])
              exact Hs1100.out _ _ ⟨sp, Ap, np, cp, W.heap.size, rfl, st2⟩
            refine AllReadyH.cons rfl (fun K hK => ?_) ?_
            · go_simp
              have st2 := Sg.make st.out (Firm2.and Firm2.yes (Firm2.and (Firm2.zi _ _ _) (Firm2.ows _ _ _))) 1 _ rfl (by simp)
              refine hK.out _ _ st2.1 (fun hHeld => ?_)
              (try simp only [Act.put, List.setIfInBounds_toArray, List.set_cons_zero, List.set_cons_succ])
              exact Hs1010.out _ _ ⟨sp, Ap, np, cp, W.heap.size, rfl, st2⟩
            refine AllReadyH.cons rfl (fun K hK => ?_) ?_
            · go_simp
              have st2 := Sg.make st.out (Firm2.and Firm2.yes (Firm2.and (Firm2.zi _ _ _) (Firm2.ows _ _ _))) 2 _ rfl (by simp)
              refine hK.out _ _ st2.1 (fun hHeld => ?_)
              (try simp only [Act.put, List.setIfInBounds_toArray, List.set_cons_zero, List.set_cons_succ])
              exact Hs1001.out _ _ ⟨sp, Ap, np, cp, W.heap.size, rfl, st2⟩
            exact AllReadyH.nil
          refine wpAnyH_with 6 #[true, true, false, true, true, false, true, true, false, true, true, true, false, false, false] (fun a W => ∃ (l0 : Nat) (l1 : Nat) (l2 : Nat), a = ⟨#[zv sa (.slice Aa na ca), zv sb (.slice Ab nb cb), .pointer (some ⟨w.heap.size, 0, none⟩), .pointer (some ⟨w.heap.size + 1, 0, none⟩), .bool false, .pointer (some ⟨g0, 0, none⟩), .pointer (some ⟨g1, 0, none⟩), .pointer (some ⟨h0, 0, none⟩), .pointer (some ⟨h1, 0, none⟩), .bool true, .pointer (some ⟨l0, 0, none⟩), .pointer (some ⟨l1, 0, none⟩), .pointer (some ⟨l2, 0, none⟩), .bool true, .bool false, zv sa (.slice Aa na ca), zv sb (.slice Ab nb cb), .bool false, zv sa (.slice Aa na ca), zv sa (.slice Ax nx cx), zv sb (.slice Ab nb cb), zv sb (.slice Ay ny cy), zv sa (.slice Aa na ca), zv se (.slice Ae ne ce), zv sb (.slice Ab nb cb), zv sf (.slice Af nf cf), .pointer (some ⟨g0, 0, none⟩), .bool sa, .pointer (some ⟨g0, 1, none⟩), .slice Ax nx cx, zv s30 (.slice A30 n30 c30), zv se (.slice Ae ne ce), v32, .bool true, .bool true, zv sa (.slice Ax nx cx), zv s36 (.slice A36 n36 c36), zv se (.slice Ae ne ce), v38, v39, .bool true, .bool true, .bool true, zv sa (.slice Ax nx cx), .int .i64 (zsg ai), zv se (.slice Ae ne ce), .int .i64 (zsg ai), .bool true, .bool true, .bool true, zv sa (.slice Ax nx cx), zv sb (.slice Ay ny cy), .int .i64 (cmpZ ai bi), zv se (.slice Ae ne ce), zv sf (.slice Af nf cf), .int .i64 (cmpZ ai bi), .bool true, .bool true, zv sa (.slice Ax nx cx), zv sb (.slice Ay ny cy), undef, zv sa (.slice Ax nx cx), zv sb (.slice Ay ny cy), undef, zv sa (.slice Ax nx cx), zv sb (.slice Ay ny cy), undef, undef, undef, undef, undef, undef, undef, undef, undef, undef, undef, undef, undef, undef, undef, undef, undef, undef, undef, undef, undef, undef, undef, undef, undef, undef, undef, undef, undef, undef, undef, undef, undef, undef, undef, undef, undef, undef, undef, undef, undef, undef, undef, undef, undef, undef, undef, undef, undef, undef, undef, undef], []⟩ ∧ Sg M.drew.heap.size M.drew W [zblk, zblk, zblk] [some l0, some l1, some l2] (fun W => True)) ?_ (fun Hs0111 => ?_)
          · rintro a W ⟨l0, l1, l2, rfl, st0⟩
            have hHeld := st0.1
            have st := hide st0
            clear st0
            refine wpAnyH_ready (rs := [2]) (by kernel_rfl) (by simp) ?_
            refine AllReadyH.cons rfl (fun K hK => ?_) ?_
            · go_simp
              go_at_call 20
              refine Calls.mono (zadd_o (K := 12) (HA.out _ _ _ _ (R.out.2.2.1.step st.out.1)) (HBB.out _ _ _ _ (R.out.2.2.2.step st.out.1)) (by omega) (by omega) (by omega)) ?_
              rintro e wx ⟨sp, Ap, np, cp, rfl, hz9, ow9, bx⟩
              have tx := And.intro hz9 ((ow9.mono (show M.heap.size ≤ W.heap.size from st.out.1.size)).ows)
              clear hz9 ow9
              try dsimp only
              have st2 := Sg.call (G := fun W => (Zi W (zv sp (.slice Ap np cp)) (ai + bi) (12 + 1) ∧ Ows W M.heap.size (.slice Ap np cp) (cn Q (ai + bi).natAbs))) st.out bx Firm2.yes tx
              have hSt := hide st2
              refine hK.out _ _ st2.1 (fun hHeld => ?_)
              clear hK K st2
              (try simp only [Act.put, List.setIfInBounds_toArray, List.set_cons_zero, List.set_cons_succ])
              exact Hs1111.out _ _ ⟨sp, Ap, np, cp, l0, l1, l2, rfl, hSt.out⟩
            exact AllReadyH.nil
          refine wpAnyH_with 7 #[true, true, false, true, true, false, true, true, false, true, true, false, false, false, false] (fun a W => ∃ (l0 : Nat) (l1 : Nat), a = ⟨#[zv sa (.slice Aa na ca), zv sb (.slice Ab nb cb), .pointer (some ⟨w.heap.size, 0, none⟩), .pointer (some ⟨w.heap.size + 1, 0, none⟩), .bool false, .pointer (some ⟨g0, 0, none⟩), .pointer (some ⟨g1, 0, none⟩), .pointer (some ⟨h0, 0, none⟩), .pointer (some ⟨h1, 0, none⟩), .bool true, .pointer (some ⟨l0, 0, none⟩), .pointer (some ⟨l1, 0, none⟩), undef, .bool true, .bool false, zv sa (.slice Aa na ca), zv sb (.slice Ab nb cb), .bool false, zv sa (.slice Aa na ca), zv sa (.slice Ax nx cx), zv sb (.slice Ab nb cb), zv sb (.slice Ay ny cy), zv sa (.slice Aa na ca), zv se (.slice Ae ne ce), zv sb (.slice Ab nb cb), zv sf (.slice Af nf cf), .pointer (some ⟨g0, 0, none⟩), .bool sa, .pointer (some ⟨g0, 1, none⟩), .slice Ax nx cx, zv s30 (.slice A30 n30 c30), zv se (.slice Ae ne ce), v32, .bool true, .bool true, zv sa (.slice Ax nx cx), zv s36 (.slice A36 n36 c36), zv se (.slice Ae ne ce), v38, v39, .bool true, .bool true, .bool true, zv sa (.slice Ax nx cx), .int .i64 (zsg ai), zv se (.slice Ae ne ce), .int .i64 (zsg ai), .bool true, .bool true, .bool true, zv sa (.slice Ax nx cx), zv sb (.slice Ay ny cy), .int .i64 (cmpZ ai bi), zv se (.slice Ae ne ce), zv sf (.slice Af nf cf), .int .i64 (cmpZ ai bi), .bool true, .bool true, zv sa (.slice Ax nx cx), zv sb (.slice Ay ny cy), undef, zv sa (.slice Ax nx cx), zv sb (.slice Ay ny cy), undef, zv sa (.slice Ax nx cx), zv sb (.slice Ay ny cy), undef, undef, undef, undef, undef, undef, undef, undef, undef, undef, undef, undef, undef, undef, undef, undef, undef, undef, undef, undef, undef, undef, undef, undef, undef, undef, undef, undef, undef, undef, undef, undef, undef, undef, undef, undef, undef, undef, undef, undef, undef, undef, undef, undef, undef, undef, undef, undef, undef, undef, undef, undef], []⟩ ∧ Sg M.drew.heap.size M.drew W [zblk, zblk, zblk] [some l0, some l1, none] (fun W => True)) ?_ (fun Hs0110 => ?_)
          · rintro a W ⟨l0, l1, rfl, st0⟩
            have hHeld := st0.1
            have st := hide st0
            clear st0
            refine wpAnyH_ready (rs := [2, 11]) (by kernel_rfl) (by simp) ?_
            refine AllReadyH.cons rfl (fun K hK => ?_) ?_
            · go_simp
              go_at_call 20
              refine Calls.mono (zadd_o (K := 12) (HA.out _ _ _ _ (R.out.2.2.1.step st.out.1)) (HBB.out _ _ _ _ (R.out.2.2.2.step st.out.1)) (by omega) (by omega) (by omega)) ?_
              rintro e wx ⟨sp, Ap, np, cp, rfl, hz9, ow9, bx⟩
              have tx := And.intro hz9 ((ow9.mono (show M.heap.size ≤ W.heap.size from st.out.1.size)).ows)
              clear hz9 ow9
              try dsimp only
              have st2 := Sg.call (G := fun W => (Zi W (zv sp (.slice Ap np cp)) (ai + bi) (12 + 1) ∧ Ows W M.heap.size (.slice Ap np cp) (cn Q (ai + bi).natAbs))) st.out bx Firm2.yes tx
              have hSt := hide st2
              refine hK.out _ _ st2.1 (fun hHeld => ?_)
              clear hK K st2
              (try simp only [Act.put, List.setIfInBounds_toArray, List.set_cons_zero, List.set_cons_succ])
              exact Hs1110.out _ _ ⟨sp, Ap, np, cp, l0, l1, rfl, hSt.out⟩
            refine AllReadyH.cons rfl (fun K hK => ?_) ?_
            · go_simp
              have st2 := Sg.make st.out Firm2.yes 2 _ rfl (by simp)
              refine hK.out _ _ st2.1 (fun hHeld => ?_)
              (try simp only [Act.put, List.setIfInBounds_toArray, List.set_cons_zero, List.set_cons_succ])
              exact Hs0111.out _ _ ⟨l0, l1, W.heap.size, rfl, st2⟩
            exact AllReadyH.nil
          refine wpAnyH_with 7 #[true, true, false, true, true, false, true, true, false, true, false, true, false, false, false] (fun a W => ∃ (l0 : Nat) (l2 : Nat), a = ⟨#[zv sa (.slice Aa na ca), zv sb (.slice Ab nb cb), .pointer (some ⟨w.heap.size, 0, none⟩), .pointer (some ⟨w.heap.size + 1, 0, none⟩), .bool false, .pointer (some ⟨g0, 0, none⟩), .pointer (some ⟨g1, 0, none⟩), .pointer (some ⟨h0, 0, none⟩), .pointer (some ⟨h1, 0, none⟩), .bool true, .pointer (some ⟨l0, 0, none⟩), undef, .pointer (some ⟨l2, 0, none⟩), .bool true, .bool false, zv sa (.slice Aa na ca), zv sb (.slice Ab nb cb), .bool false, zv sa (.slice Aa na ca), zv sa (.slice Ax nx cx), zv sb (.slice Ab nb cb), zv sb (.slice Ay ny cy), zv sa (.slice Aa na ca), zv se (.slice Ae ne ce), zv sb (.slice Ab nb cb), zv sf (.slice Af nf cf), .pointer (some ⟨g0, 0, none⟩), .bool sa, .pointer (some ⟨g0, 1, none⟩), .slice Ax nx cx, zv s30 (.slice A30 n30 c30), zv se (.slice Ae ne ce), v32, .bool true, .bool true, zv sa (.slice Ax nx cx), zv s36 (.slice A36 n36 c36), zv se (.slice Ae ne ce), v38, v39, .bool true, .bool true, .bool true, zv sa (.slice Ax nx cx), .int .i64 (zsg ai), zv se (.slice Ae ne ce), .int .i64 (zsg ai), .bool true, .bool true, .bool true, zv sa (.slice Ax nx cx), zv sb (.slice Ay ny cy), .int .i64 (cmpZ ai bi), zv se (.slice Ae ne ce), zv sf (.slice Af nf cf), .int .i64 (cmpZ ai bi), .bool true, .bool true, zv sa (.slice Ax nx cx), zv sb (.slice Ay ny cy), undef, zv sa (.slice Ax nx cx), zv sb (.slice Ay ny cy), undef, zv sa (.slice Ax nx cx), zv sb (.slice Ay ny cy), undef, undef, undef, undef, undef, undef, undef, undef, undef, undef, undef, undef, undef, undef, undef, undef, undef, undef, undef, undef, undef, undef, undef, undef, undef, undef, undef, undef, undef, undef, undef, undef, undef, undef, undef, undef, undef, undef, undef, undef, undef, undef, undef, undef, undef, undef, undef, undef, undef, undef, undef, undef], []⟩ ∧ Sg M.drew.heap.size M.drew W [zblk, zblk, zblk] [some l0, none, some l2] (fun W => True)) ?_ (fun Hs0101 => ?_)
          · rintro a W ⟨l0, l2, rfl, st0⟩
            have hHeld := st0.1
            have st := hide st0
            clear st0
            refine wpAnyH_ready (rs := [2, 10]) (by kernel_rfl) (by simp) ?_
            refine AllReadyH.cons rfl (fun K hK => ?_) ?_
            · go_simp
              go_at_call 20
              refine Calls.mono (zadd_o (K := 12) (HA.out _ _ _ _ (R.out.2.2.1.step st.out.1)) (HBB.out _ _ _ _ (R.out.2.2.2.step st.out.1)) (by omega) (by omega) (by omega)) ?_
              rintro e wx ⟨sp, Ap, np, cp, rfl, hz9, ow9, bx⟩
              have tx := And.intro hz9 ((ow9.mono (show M.heap.size ≤ W.heap.size from st.out.1.size)).ows)
              clear hz9 ow9
              try dsimp only
              have st2 := Sg.call (G := fun W => (Zi W (zv sp (.slice Ap np cp)) (ai + bi) (12 + 1) ∧ Ows W M.heap.size (.slice Ap np cp) (cn Q (ai + bi).natAbs))) st.out bx Firm2.yes tx
              have hSt := hide st2
              refine hK.out _ _ st2.1 (fun hHeld => ?_)
              clear hK K st2
              (try simp only [Act.put, List.setIfInBounds_toArray, List.set_cons_zero, List.set_cons_succ])
              exact Hs1101.out _ _ ⟨sp, Ap, np, cp, l0, l2, rfl, hSt.out⟩
            refine AllReadyH.cons rfl (fun K hK => ?_) ?_
            · go_simp
              have st2 := Sg.make st.out Firm2.yes 1 _ rfl (by simp)
              refine hK.out _ _ st2.1 (fun hHeld => ?_)
              (try simp only [Act.put, List.setIfInBounds_toArray, List.set_cons_zero, List.set_cons_succ])
              exact Hs0111.out _ _ ⟨l0, W.heap.size, l2, rfl, st2⟩
            exact AllReadyH.nil
          refine wpAnyH_with 8 #[true, true, false, true, true, false, true, true, false, true, false, false, false, false, false] (fun a W => ∃ (l0 : Nat), a = ⟨#[zv sa (.slice Aa na ca), zv sb (.slice Ab nb cb), .pointer (some ⟨w.heap.size, 0, none⟩), .pointer (some ⟨w.heap.size + 1, 0, none⟩), .bool false, .pointer (some ⟨g0, 0, none⟩), .pointer (some ⟨g1, 0, none⟩), .pointer (some ⟨h0, 0, none⟩), .pointer (some ⟨h1, 0, none⟩), .bool true, .pointer (some ⟨l0, 0, none⟩), undef, undef, .bool true, .bool false, zv sa (.slice Aa na ca), zv sb (.slice Ab nb cb), .bool false, zv sa (.slice Aa na ca), zv sa (.slice Ax nx cx), zv sb (.slice Ab nb cb), zv sb (.slice Ay ny cy), zv sa (.slice Aa na ca), zv se (.slice Ae ne ce), zv sb (.slice Ab nb cb), zv sf (.slice Af nf cf), .pointer (some ⟨g0, 0, none⟩), .bool sa, .pointer (some ⟨g0, 1, none⟩), .slice Ax nx cx, zv s30 (.slice A30 n30 c30), zv se (.slice Ae ne ce), v32, .bool true, .bool true, zv sa (.slice Ax nx cx), zv s36 (.slice A36 n36 c36), zv se (.slice Ae ne ce), v38, v39, .bool true, .bool true, .bool true, zv sa (.slice Ax nx cx), .int .i64 (zsg ai), zv se (.slice Ae ne ce), .int .i64 (zsg ai), .bool true, .bool true, .bool true, zv sa (.slice Ax nx cx), zv sb (.slice Ay ny cy), .int .i64 (cmpZ ai bi), zv se (.slice Ae ne ce), zv sf (.slice Af nf cf), .int .i64 (cmpZ ai bi), .bool true, .bool true, zv sa (.slice Ax nx cx), zv sb (.slice Ay ny cy), undef, zv sa (.slice Ax nx cx), zv sb (.slice Ay ny cy), undef, zv sa (.slice Ax nx cx), zv sb (.slice Ay ny cy), undef, undef, undef, undef, undef, undef, undef, undef, undef, undef, undef, undef, undef, undef, undef, undef, undef, undef, undef, undef, undef, undef, undef, undef, undef, undef, undef, undef, undef, undef, undef, undef, undef, undef, undef, undef, undef, undef, undef, undef, undef, undef, undef, undef, undef, undef, undef, undef, undef, undef, undef, undef], []⟩ ∧ Sg M.drew.heap.size M.drew W [zblk, zblk, zblk] [some l0, none, none] (fun W => True)) ?_ (fun Hs0100 => ?_)
          · rintro a W ⟨l0, rfl, st0⟩
            have hHeld := st0.1
            have st := hide st0
            clear st0
            refine wpAnyH_ready (rs := [2, 10, 11]) (by kernel_rfl) (by simp) ?_
            refine AllReadyH.cons rfl (fun K hK => ?_) ?_
            · go_simp
              go_at_call 20
              refine Calls.mono (zadd_o (K := 12) (HA.out _ _ _ _ (R.out.2.2.1.step st.out.1)) (HBB.out _ _ _ _ (R.out.2.2.2.step st.out.1)) (by omega) (by omega) (by omega)) ?_
              rintro e wx ⟨sp, Ap, np, cp, rfl, hz9, ow9, bx⟩
              have tx := And.intro hz9 ((ow9.mono (show M.heap.size ≤ W.heap.size from st.out.1.size)).ows)
              clear hz9 ow9
              try dsimp only
              have st2 := Sg.call (G := fun W => (Zi W (zv sp (.slice Ap np cp)) (ai + bi) (12 + 1) ∧ Ows W M.heap.size (.slice Ap np cp) (cn Q (ai + bi).natAbs))) st.out bx Firm2.yes tx
              have hSt := hide st2
              refine hK.out _ _ st2.1 (fun hHeld => ?_)
              clear hK K st2
              (try simp only [Act.put, List.setIfInBounds_toArray, List.set_cons_zero, List.set_cons_succ])
              exact Hs1100.out _ _ ⟨sp, Ap, np, cp, l0, rfl, hSt.out⟩
            refine AllReadyH.cons rfl (fun K hK => ?_) ?_
            · go_simp
              have st2 := Sg.make st.out Firm2.yes 1 _ rfl (by simp)
              refine hK.out _ _ st2.1 (fun hHeld => ?_)
              (try simp only [Act.put, List.setIfInBounds_toArray, List.set_cons_zero, List.set_cons_succ])
              exact Hs0110.out _ _ ⟨l0, W.heap.size, rfl, st2⟩
            refine AllReadyH.cons rfl (fun K hK => ?_) ?_
            · go_simp
              have st2 := Sg.make st.out Firm2.yes 2 _ rfl (by simp)
              refine hK.out _ _ st2.1 (fun hHeld => ?_)
              (try simp only [Act.put, List.setIfInBounds_toArray, List.set_cons_zero, List.set_cons_succ])
              exact Hs0101.out _ _ ⟨l0, W.heap.size, rfl, st2⟩
            exact AllReadyH.nil
          refine wpAnyH_with 7 #[true, true, false, true, true, false, true, true, false, false, true, true, false, false, false] (fun a W => ∃ (l1 : Nat) (l2 : Nat), a = ⟨#[zv sa (.slice Aa na ca), zv sb (.slice Ab nb cb), .pointer (some ⟨w.heap.size, 0, none⟩), .pointer (some ⟨w.heap.size + 1, 0, none⟩), .bool false, .pointer (some ⟨g0, 0, none⟩), .pointer (some ⟨g1, 0, none⟩), .pointer (some ⟨h0, 0, none⟩), .pointer (some ⟨h1, 0, none⟩), .bool true, undef, .pointer (some ⟨l1, 0, none⟩), .pointer (some ⟨l2, 0, none⟩), .bool true, .bool false, zv sa (.slice Aa na ca), zv sb (.slice Ab nb cb), .bool false, zv sa (.slice Aa na ca), zv sa (.slice Ax nx cx), zv sb (.slice Ab nb cb), zv sb (.slice Ay ny cy), zv sa (.slice Aa na ca), zv se (.slice Ae ne ce), zv sb (.slice Ab nb cb), zv sf (.slice Af nf cf), .pointer (some ⟨g0, 0, none⟩), .bool sa, .pointer (some ⟨g0, 1, none⟩), .slice Ax nx cx, zv s30 (.slice A30 n30 c30), zv se (.slice Ae ne ce), v32, .bool true, .bool true, zv sa (.slice Ax nx cx), zv s36 (.slice A36 n36 c36), zv se (.slice Ae ne ce), v38, v39, .bool true, .bool true, .bool true, zv sa (.slice Ax nx cx), .int .i64 (zsg ai), zv se (.slice Ae ne ce), .int .i64 (zsg ai), .bool true, .bool true, .bool true, zv sa (.slice Ax nx cx), zv sb (.slice Ay ny cy), .int .i64 (cmpZ ai bi), zv se (.slice Ae ne ce), zv sf (.slice Af nf cf), .int .i64 (cmpZ ai bi), .bool true, .bool true, zv sa (.slice Ax nx cx), zv sb (.slice Ay ny cy), undef, zv sa (.slice Ax nx cx), zv sb (.slice Ay ny cy), undef, zv sa (.slice Ax nx cx), zv sb (.slice Ay ny cy), undef, undef, undef, undef, undef, undef, undef, undef, undef, undef, undef, undef, undef, undef, undef, undef, undef, undef, undef, undef, undef, undef, undef, undef, undef, undef, undef, undef, undef, undef, undef, undef, undef, undef, undef, undef, undef, undef, undef, undef, undef, undef, undef, undef, undef, undef, undef, undef, undef, undef, undef, undef], []⟩ ∧ Sg M.drew.heap.size M.drew W [zblk, zblk, zblk] [none, some l1, some l2] (fun W => True)) ?_ (fun Hs0011 => ?_)
          · rintro a W ⟨l1, l2, rfl, st0⟩
            have hHeld := st0.1
            have st := hide st0
            clear st0
            refine wpAnyH_ready (rs := [2, 9]) (by kernel_rfl) (by simp) ?_
            refine AllReadyH.cons rfl (fun K hK => ?_) ?_
            · go_simp
              go_at_call 20
              refine Calls.mono (zadd_o (K := 12) (HA.out _ _ _ _ (R.out.2.2.1.step st.out.1)) (HBB.out _ _ _ _ (R.out.2.2.2.step st.out.1)) (by omega) (by omega) (by omega)) ?_
              rintro e wx ⟨sp, Ap, np, cp, rfl, hz9, ow9, bx⟩
              have tx := And.intro hz9 ((ow9.mono (show M.heap.size ≤ W.heap.size from st.out.1.size)).ows)
              clear hz9 ow9
              try dsimp only
              have st2 := Sg.call (G := fun W => (Zi W (zv sp (.slice Ap np cp)) (ai + bi) (12 + 1) ∧ Ows W M.heap.size (.slice Ap np cp) (cn Q (ai + bi).natAbs))) st.out bx Firm2.yes tx
              have hSt := hide st2
              refine hK.out _ _ st2.1 (fun hHeld => ?_)
              clear hK K st2
              (try simp only [Act.put, List.setIfInBounds_toArray, List.set_cons_zero, List.set_cons_succ])
              exact Hs1011.out _ _ ⟨sp, Ap, np, cp, l1, l2, rfl, hSt.out⟩
            refine AllReadyH.cons rfl (fun K hK => ?_) ?_
            · go_simp
              have st2 := Sg.make st.out Firm2.yes 0 _ rfl (by simp)
              refine hK.out _ _ st2.1 (fun hHeld => ?_)
              (try simp only [Act.put, List.setIfInBounds_toArray, List.set_cons_zero, List.set_cons_succ])
              exact Hs0111.out _ _ ⟨W.heap.size, l1, l2, rfl, st2⟩
            exact AllReadyH.nil
          refine wpAnyH_with 8 #[true, true, false, true, true, false, true, true, false, false, true, false, false, false, false] (fun a W => ∃ (l1 : Nat), a = ⟨#[zv sa (.slice Aa na ca), zv sb (.slice Ab nb cb), .pointer (some ⟨w.heap.size, 0, none⟩), .pointer (some ⟨w.heap.size + 1, 0, none⟩), .bool false, .pointer (some ⟨g0, 0, none⟩), .pointer (some ⟨g1, 0, none⟩), .pointer (some ⟨h0, 0, none⟩), .pointer (some ⟨h1, 0, none⟩), .bool true, undef, .pointer (some ⟨l1, 0, none⟩), undef, .bool true, .bool false, zv sa (.slice Aa na ca), zv sb (.slice Ab nb cb), .bool false, zv sa (.slice Aa na ca), zv sa (.slice Ax nx cx), zv sb (.slice Ab nb cb), zv sb (.slice Ay ny cy), zv sa (.slice Aa na ca), zv se (.slice Ae ne ce), zv sb (.slice Ab nb cb), zv sf (.slice Af nf cf), .pointer (some ⟨g0, 0, none⟩), .bool sa, .pointer (some ⟨g0, 1, none⟩), .slice Ax nx cx, zv s30 (.slice A30 n30 c30), zv se (.slice Ae ne ce), v32, .bool true, .bool true, zv sa (.slice Ax nx cx), zv s36 (.slice A36 n36 c36), zv se (.slice Ae ne ce), v38, v39, .bool true, .bool true, .bool true, zv sa (.slice Ax nx cx), .int .i64 (zsg ai), zv se (.slice Ae ne ce), .int .i64 (zsg ai), .bool true, .bool true, .bool true, zv sa (.slice Ax nx cx), zv sb (.slice Ay ny cy), .int .i64 (cmpZ ai bi), zv se (.slice Ae ne ce), zv sf (.slice Af nf cf), .int .i64 (cmpZ ai bi), .bool true, .bool true, zv sa (.slice Ax nx cx), zv sb (.slice Ay ny cy), undef, zv sa (.slice Ax nx cx), zv sb (.slice Ay ny cy), undef, zv sa (.slice Ax nx cx), zv sb (.slice Ay ny cy), undef, undef, undef, undef, undef, undef, undef, undef, undef, undef, undef, undef, undef, undef, undef, undef, undef, undef, undef, undef, undef, undef, undef, undef, undef, undef, undef, undef, undef, undef, undef, undef, undef, undef, undef, undef, undef, undef, undef, undef, undef, undef, undef, undef, undef, undef, undef, undef, undef, undef, undef, undef], []⟩ ∧ Sg M.drew.heap.size M.drew W [zblk, zblk, zblk] [none, some l1, none] (fun W => True)) ?_ (fun Hs0010 => ?_)
          · rintro a W ⟨l1, rfl, st0⟩
            have hHeld := st0.1
            have st := hide st0
            clear st0
            refine wpAnyH_ready (rs := [2, 9, 11]) (by kernel_rfl) (by simp) ?_
            refine AllReadyH.cons rfl (fun K hK => ?_) ?_
            · go_simp
              go_at_call 20
              refine Calls.mono (zadd_o (K := 12) (HA.out _ _ _ _ (R.out.2.2.1.step st.out.1)) (HBB.out _ _ _ _ (R.out.2.2.2.step st.out.1)) (by omega) (by omega) (by omega)) ?_
              rintro e wx ⟨sp, Ap, np, cp, rfl, hz9, ow9, bx⟩
              have tx := And.intro hz9 ((ow9.mono (show M.heap.size ≤ W.heap.size from st.out.1.size)).ows)
              clear hz9 ow9
              try dsimp only
              have st2 := Sg.call (G := fun W => (Zi W (zv sp (.slice Ap np cp)) (ai + bi) (12 + 1) ∧ Ows W M.heap.size (.slice Ap np cp) (cn Q (ai + bi).natAbs))) st.out bx Firm2.yes tx
              have hSt := hide st2
              refine hK.out _ _ st2.1 (fun hHeld => ?_)
              clear hK K st2
              (try simp only [Act.put, List.setIfInBounds_toArray, List.set_cons_zero, List.set_cons_succ])
              exact Hs1010.out _ _ ⟨sp, Ap, np, cp, l1, rfl, hSt.out⟩
            refine AllReadyH.cons rfl (fun K hK => ?_) ?_
            · go_simp
              have st2 := Sg.make st.out Firm2.yes 0 _ rfl (by simp)
              refine hK.out _ _ st2.1 (fun hHeld => ?_)
              (try simp only [Act.put, List.setIfInBounds_toArray, List.set_cons_zero, List.set_cons_succ])
              exact Hs0110.out _ _ ⟨W.heap.size, l1, rfl, st2⟩
            refine AllReadyH.cons rfl (fun K hK => ?_) ?_
            · go_simp
              have st2 := Sg.make st.out Firm2.yes 2 _ rfl (by simp)
              refine hK.out _ _ st2.1 (fun hHeld => ?_)
              (try simp only [Act.put, List.setIfInBounds_toArray, List.set_cons_zero, List.set_cons_succ])
              exact Hs0011.out _ _ ⟨l1, W.heap.size, rfl, st2⟩
            exact AllReadyH.nil
          refine wpAnyH_with 8 #[true, true, false, true, true, false, true, true, false, false, false, true, false, false, false] (fun a W => ∃ (l2 : Nat), a = ⟨#[zv sa (.slice Aa na ca), zv sb (.slice Ab nb cb), .pointer (some ⟨w.heap.size, 0, none⟩), .pointer (some ⟨w.heap.size + 1, 0, none⟩), .bool false, .pointer (some ⟨g0, 0, none⟩), .pointer (some ⟨g1, 0, none⟩), .pointer (some ⟨h0, 0, none⟩), .pointer (some ⟨h1, 0, none⟩), .bool true, undef, undef, .pointer (some ⟨l2, 0, none⟩), .bool true, .bool false, zv sa (.slice Aa na ca), zv sb (.slice Ab nb cb), .bool false, zv sa (.slice Aa na ca), zv sa (.slice Ax nx cx), zv sb (.slice Ab nb cb), zv sb (.slice Ay ny cy), zv sa (.slice Aa na ca), zv se (.slice Ae ne ce), zv sb (.slice Ab nb cb), zv sf (.slice Af nf cf), .pointer (some ⟨g0, 0, none⟩), .bool sa, .pointer (some ⟨g0, 1, none⟩), .slice Ax nx cx, zv s30 (.slice A30 n30 c30), zv se (.slice Ae ne ce), v32, .bool true, .bool true, zv sa (.slice Ax nx cx), zv s36 (.slice A36 n36 c36), zv se (.slice Ae ne ce), v38, v39, .bool true, .bool true, .bool true, zv sa (.slice Ax nx cx), .int .i64 (zsg ai), zv se (.slice Ae ne ce), .int .i64 (zsg ai), .bool true, .bool true, .bool true, zv sa (.slice Ax nx cx), zv sb (.slice Ay ny cy), .int .i64 (cmpZ ai bi), zv se (.slice Ae ne ce), zv sf (.slice Af nf cf), .int .i64 (cmpZ ai bi), .bool true, .bool true, zv sa (.slice Ax nx cx), zv sb (.slice Ay ny cy), undef, zv sa (.slice Ax nx cx), zv sb (.slice Ay ny cy), undef, zv sa (.slice Ax nx cx), zv sb (.slice Ay ny cy), undef, undef, undef, undef, undef, undef, undef, undef, undef, undef, undef, undef, undef, undef, undef, undef, undef, undef, undef, undef, undef, undef, undef, undef, undef, undef, undef, undef, undef, undef, undef, undef, undef, undef, undef, undef, undef, undef, undef, undef, undef, undef, undef, undef, undef, undef, undef, undef, undef, undef, undef, undef], []⟩ ∧ Sg M.drew.heap.size M.drew W [zblk, zblk, zblk] [none, none, some l2] (fun W => True)) ?_ (fun Hs0001 => ?_)
          · rintro a W ⟨l2, rfl, st0⟩
            have hHeld := st0.1
            have st := hide st0
            clear st0
            refine wpAnyH_ready (rs := [2, 9, 10]) (by kernel_rfl) (by simp) ?_
            refine AllReadyH.cons rfl (fun K hK => ?_) ?_
            · go_simp
              go_at_call 20
              refine Calls.mono (zadd_o (K := 12) (HA.out _ _ _ _ (R.out.2.2.1.step st.out.1)) (HBB.out _ _ _ _ (R.out.2.2.2.step st.out.1)) (by omega) (by omega) (by omega)) ?_
              rintro e wx ⟨sp, Ap, np, cp, rfl, hz9, ow9, bx⟩
              have tx := And.intro hz9 ((ow9.mono (show M.heap.size ≤ W.heap.size from st.out.1.size)).ows)
              clear hz9 ow9
              try dsimp only
              have st2 := Sg.call (G := fun W => (Zi W (zv sp (.slice Ap np cp)) (ai + bi) (12 + 1) ∧ Ows W M.heap.size (.slice Ap np cp) (cn Q (ai + bi).natAbs))) st.out bx Firm2.yes tx
              have hSt := hide st2
              refine hK.out _ _ st2.1 (fun hHeld => ?_)
              clear hK K st2
              (try simp only [Act.put, List.setIfInBounds_toArray, List.set_cons_zero, List.set_cons_succ])
              exact Hs1001.out _ _ ⟨sp, Ap, np, cp, l2, rfl, hSt.out⟩
            refine AllReadyH.cons rfl (fun K hK => ?_) ?_
            · go_simp
              have st2 := Sg.make st.out Firm2.yes 0 _ rfl (by simp)
              refine hK.out _ _ st2.1 (fun hHeld => ?_)
              (try simp only [Act.put, List.setIfInBounds_toArray, List.set_cons_zero, List.set_cons_succ])
              exact Hs0101.out _ _ ⟨W.heap.size, l2, rfl, st2⟩
            refine AllReadyH.cons rfl (fun K hK => ?_) ?_
            · go_simp
              have st2 := Sg.make st.out Firm2.yes 1 _ rfl (by simp)
              refine hK.out _ _ st2.1 (fun hHeld => ?_)
              (try simp only [Act.put, List.setIfInBounds_toArray, List.set_cons_zero, List.set_cons_succ])
              exact Hs0011.out _ _ ⟨W.heap.size, l2, rfl, st2⟩
            exact AllReadyH.nil
          refine wpAnyH_take (i := 0) (v := ?_) rfl (by kernel_rfl) (by kernel_rfl) (by kernel_rfl) (fun _ _ _ h => h) (Or.inl ⟨?_, ?_⟩) (by assumption) ?_
          rotate_left
          · rfl
          · (intro w hSw; have e0 := cell_keep P.out.2.2.1.1 hSw; have e1 := cell_keep P.out.2.2.1.2 hSw; go_simp; try with_reducible rfl)
          (try simp only [Act.put, List.setIfInBounds_toArray, List.set_cons_zero, List.set_cons_succ])
          refine wpAnyH_take (i := 1) (v := ?_) rfl (by kernel_rfl) (by kernel_rfl) (by kernel_rfl) (fun _ _ _ h => h) (Or.inl ⟨?_, ?_⟩) (by assumption) ?_
          rotate_left
          · rfl
          · (intro w hSw; have e0 := cell_keep P.out.2.2.2.1.1 hSw; have e1 := cell_keep P.out.2.2.2.1.2 hSw; go_simp; try with_reducible rfl)
          (try simp only [Act.put, List.setIfInBounds_toArray, List.set_cons_zero, List.set_cons_succ])
          refine wpAnyH_take (i := 3) (v := ?_) rfl (by kernel_rfl) (by kernel_rfl) (by kernel_rfl) (fun _ _ _ h => h) (Or.inl ⟨?_, ?_⟩) (by assumption) ?_
          rotate_left
          · rfl
          · (intro w hSw; have e0 := cell_keep P.out.2.2.1.1 hSw; have e1 := cell_keep P.out.2.2.1.2 hSw; go_simp; try with_reducible rfl)
          (try simp only [Act.put, List.setIfInBounds_toArray, List.set_cons_zero, List.set_cons_succ])
          refine wpAnyH_take (i := 4) (v := ?_) rfl (by kernel_rfl) (by kernel_rfl) (by kernel_rfl) (fun _ _ _ h => h) (Or.inl ⟨?_, ?_⟩) (by assumption) ?_
          rotate_left
          · rfl
          · (intro w hSw; have e0 := cell_keep P.out.2.2.2.1.1 hSw; have e1 := cell_keep P.out.2.2.2.1.2 hSw; go_simp; try with_reducible rfl)
          (try simp only [Act.put, List.setIfInBounds_toArray, List.set_cons_zero, List.set_cons_succ])
          refine wpAnyH_take (i := 6) (v := ?_) rfl (by kernel_rfl) (by kernel_rfl) (by kernel_rfl) (fun _ _ _ h => h) (Or.inl ⟨?_, ?_⟩) (by assumption) ?_
          rotate_left
          · rfl
          · (intro w hSw; have e0 := cell_keep P.out.2.2.1.1 hSw; have e1 := cell_keep P.out.2.2.1.2 hSw; go_simp; try with_reducible rfl)
          (try simp only [Act.put, List.setIfInBounds_toArray, List.set_cons_zero, List.set_cons_succ])
          refine wpAnyH_take (i := 7) (v := ?_) rfl (by kernel_rfl) (by kernel_rfl) (by kernel_rfl) (fun _ _ _ h => h) (Or.inl ⟨?_, ?_⟩) (by assumption) ?_
          rotate_left
          · rfl
          · (intro w hSw; have e0 := cell_keep P.out.2.2.2.1.1 hSw; have e1 := cell_keep P.out.2.2.2.1.2 hSw; go_simp; try with_reducible rfl)
          (try simp only [Act.put, List.setIfInBounds_toArray, List.set_cons_zero, List.set_cons_succ])
          refine wpAnyH_with 9 #[true, true, false, true, true, false, true, true, false, false, false, false, false, false, false] (fun a W => a = ⟨#[zv sa (.slice Aa na ca), zv sb (.slice Ab nb cb), .pointer (some ⟨w.heap.size, 0, none⟩), .pointer (some ⟨w.heap.size + 1, 0, none⟩), .bool false, .pointer (some ⟨g0, 0, none⟩), .pointer (some ⟨g1, 0, none⟩), .pointer (some ⟨h0, 0, none⟩), .pointer (some ⟨h1, 0, none⟩), .bool true, undef, undef, undef, .bool true, .bool false, zv sa (.slice Aa na ca), zv sb (.slice Ab nb cb), .bool false, zv sa (.slice Aa na ca), zv sa (.slice Ax nx cx), zv sb (.slice Ab nb cb), zv sb (.slice Ay ny cy), zv sa (.slice Aa na ca), zv se (.slice Ae ne ce), zv sb (.slice Ab nb cb), zv sf (.slice Af nf cf), .pointer (some ⟨g0, 0, none⟩), .bool sa, .pointer (some ⟨g0, 1, none⟩), .slice Ax nx cx, zv s30 (.slice A30 n30 c30), zv se (.slice Ae ne ce), v32, .bool true, .bool true, zv sa (.slice Ax nx cx), zv s36 (.slice A36 n36 c36), zv se (.slice Ae ne ce), v38, v39, .bool true, .bool true, .bool true, zv sa (.slice Ax nx cx), .int .i64 (zsg ai), zv se (.slice Ae ne ce), .int .i64 (zsg ai), .bool true, .bool true, .bool true, zv sa (.slice Ax nx cx), zv sb (.slice Ay ny cy), .int .i64 (cmpZ ai bi), zv se (.slice Ae ne ce), zv sf (.slice Af nf cf), .int .i64 (cmpZ ai bi), .bool true, .bool true, zv sa (.slice Ax nx cx), zv sb (.slice Ay ny cy), undef, zv sa (.slice Ax nx cx), zv sb (.slice Ay ny cy), undef, zv sa (.slice Ax nx cx), zv sb (.slice Ay ny cy), undef, undef, undef, undef, undef, undef, undef, undef, undef, undef, undef, undef, undef, undef, undef, undef, undef, undef, undef, undef, undef, undef, undef, undef, undef, undef, undef, undef, undef, undef, undef, undef, undef, undef, undef, undef, undef, undef, undef, undef, undef, undef, undef, undef, undef, undef, undef, undef, undef, undef, undef, undef], []⟩ ∧ Sg M.drew.heap.size M.drew W [zblk, zblk, zblk] [none, none, none] (fun W => True)) ?_ (fun Hs => Hs.out _ _ ⟨rfl, Sg.start _ _ 3⟩)
          rintro a W ⟨rfl, st0⟩
          have hHeld := st0.1
          have st := hide st0
          clear st0
          refine wpAnyH_ready (rs := [2, 9, 10, 11]) (by kernel_rfl) (by simp) ?_
          refine AllReadyH.cons rfl (fun K hK => ?_) ?_
          · go_simp
            go_at_call 20
            refine Calls.mono (zadd_o (K := 12) (HA.out _ _ _ _ (R.out.2.2.1.step st.out.1)) (HBB.out _ _ _ _ (R.out.2.2.2.step st.out.1)) (by omega) (by omega) (by omega)) ?_
            rintro e wx ⟨sp, Ap, np, cp, rfl, hz9, ow9, bx⟩
            have tx := And.intro hz9 ((ow9.mono (show M.heap.size ≤ W.heap.size from st.out.1.size)).ows)
            clear hz9 ow9
            try dsimp only
            have st2 := Sg.call (G := fun W => (Zi W (zv sp (.slice Ap np cp)) (ai + bi) (12 + 1) ∧ Ows W M.heap.size (.slice Ap np cp) (cn Q (ai + bi).natAbs))) st.out bx Firm2.yes tx
            have hSt := hide st2
            refine hK.out _ _ st2.1 (fun hHeld => ?_)
            clear hK K st2
            (try simp only [Act.put, List.setIfInBounds_toArray, List.set_cons_zero, List.set_cons_succ])
            exact Hs1000.out _ _ ⟨sp, Ap, np, cp, rfl, hSt.out⟩
          refine AllReadyH.cons rfl (fun K hK => ?_) ?_
          · go_simp
            have st2 := Sg.make st.out Firm2.yes 0 _ rfl (by simp)
            refine hK.out _ _ st2.1 (fun hHeld => ?_)
            (try simp only [Act.put, List.setIfInBounds_toArray, List.set_cons_zero, List.set_cons_succ])
            exact Hs0100.out _ _ ⟨W.heap.size, rfl, st2⟩
          refine AllReadyH.cons rfl (fun K hK => ?_) ?_
          · go_simp
            have st2 := Sg.make st.out Firm2.yes 1 _ rfl (by simp)
            refine hK.out _ _ st2.1 (fun hHeld => ?_)
            (try simp only [Act.put, List.setIfInBounds_toArray, List.set_cons_zero, List.set_cons_succ])
            exact Hs0010.out _ _ ⟨W.heap.size, rfl, st2⟩
          refine AllReadyH.cons rfl (fun K hK => ?_) ?_
          · go_simp
            have st2 := Sg.make st.out Firm2.yes 2 _ rfl (by simp)
            refine hK.out _ _ st2.1 (fun hHeld => ?_)
            (try simp only [Act.put, List.setIfInBounds_toArray, List.set_cons_zero, List.set_cons_succ])
            exact Hs0001.out _ _ ⟨W.heap.size, rfl, st2⟩
          exact AllReadyH.nil
      refine wpAnyH_with 3 #[true, true, true, true, true, false, false, false] (fun a W => ∃ (se : Bool) (Ae : Option Addr) (ne ce : Nat) (sf : Bool) (Af : Option Addr) (nf cf : Nat) (h0 : Nat), a = ⟨#[zv sa (.slice Aa na ca), zv sb (.slice Ab nb cb), .pointer (some ⟨w.heap.size, 0, none⟩), .pointer (some ⟨w.heap.size + 1, 0, none⟩), .bool false, .pointer (some ⟨g0, 0, none⟩), .pointer (some ⟨g1, 0, none⟩), .pointer (some ⟨h0, 0, none⟩), undef, undef, undef, undef, undef, .bool true, .bool false, zv sa (.slice Aa na ca), zv sb (.slice Ab nb cb), .bool false, zv sa (.slice Aa na ca), zv sa (.slice Ax nx cx), zv sb (.slice Ab nb cb), zv sb (.slice Ay ny cy), zv sa (.slice Aa na ca), zv se (.slice Ae ne ce), zv sb (.slice Ab nb cb), zv sf (.slice Af nf cf), undef, undef, undef, undef, undef, undef, undef, undef, undef, undef, undef, undef, undef, undef, undef, undef, undef, undef, undef, undef, undef, undef, undef, undef, undef, undef, undef, undef, undef, undef, undef, undef, undef, undef, undef, undef, undef, undef, undef, undef, undef, undef, undef, undef, undef, undef, undef, undef, undef, undef, undef, undef, undef, undef, undef, undef, undef, undef, undef, undef, undef, undef, undef, undef, undef, undef, undef, undef, undef, undef, undef, undef, undef, undef, undef, undef, undef, undef, undef, undef, undef, undef, undef, undef, undef, undef, undef, undef, undef, undef, undef, undef], []⟩ ∧ Sg w3.drew.heap.size w3.drew W [qblk, qblk] [some h0, none] (fun W => ((True ∧ Qi W (zv se (.slice Ae ne ce)) ai (5 * 12)) ∧ Qi W (zv sf (.slice Af nf cf)) bi (5 * 12)))) ?_ (fun Hs210 => ?_)
      · rintro a W ⟨se, Ae, ne, ce, sf, Af, nf, cf, h0, rfl, st0⟩
        have hHeld := st0.1
        have st := hide st0
        clear st0
        refine wpAnyH_ready (rs := [5]) (by kernel_rfl) (by simp) ?_
        refine AllReadyH.cons rfl (fun K hK => ?_) ?_
        · go_simp
          have st2 := Sg.make st.out (Firm2.and (Firm2.and Firm2.yes (Firm2.qi _ _ _)) (Firm2.qi _ _ _)) 1 _ rfl (by simp)
          refine hK.out _ _ st2.1 (fun hHeld => ?_)
          (try simp only [Act.put, List.setIfInBounds_toArray, List.set_cons_zero, List.set_cons_succ])
          exact Hs211.out _ _ ⟨se, Ae, ne, ce, sf, Af, nf, cf, h0, W.heap.size, rfl, st2⟩
        exact AllReadyH.nil
      refine wpAnyH_with 3 #[true, true, true, true, false, true, false, false] (fun a W => ∃ (se : Bool) (Ae : Option Addr) (ne ce : Nat) (sf : Bool) (Af : Option Addr) (nf cf : Nat) (h1 : Nat), a = ⟨#[zv sa (.slice Aa na ca), zv sb (.slice Ab nb cb), .pointer (some ⟨w.heap.size, 0, none⟩), .pointer (some ⟨w.heap.size + 1, 0, none⟩), .bool false, .pointer (some ⟨g0, 0, none⟩), .pointer (some ⟨g1, 0, none⟩), undef, .pointer (some ⟨h1, 0, none⟩), undef, undef, undef, undef, .bool true, .bool false, zv sa (.slice Aa na ca), zv sb (.slice Ab nb cb), .bool false, zv sa (.slice Aa na ca), zv sa (.slice Ax nx cx), zv sb (.slice Ab nb cb), zv sb (.slice Ay ny cy), zv sa (.slice Aa na ca), zv se (.slice Ae ne ce), zv sb (.slice Ab nb cb), zv sf (.slice Af nf cf), undef, undef, undef, undef, undef, undef, undef, undef, undef, undef, undef, undef, undef, undef, undef, undef, undef, undef, undef, undef, undef, undef, undef, undef, undef, undef, undef, undef, undef, undef, undef, undef, undef, undef, undef, undef, undef, undef, undef, undef, undef, undef, undef, undef, undef, undef, undef, undef, undef, undef, undef, undef, undef, undef, undef, undef, undef, undef, undef, undef, undef, undef, undef, undef, undef, undef, undef, undef, undef, undef, undef, undef, undef, undef, undef, undef, undef, undef, undef, undef, undef, undef, undef, undef, undef, undef, undef, undef, undef, undef, undef, undef], []⟩ ∧ Sg w3.drew.heap.size w3.drew W [qblk, qblk] [none, some h1] (fun W => ((True ∧ Qi W (zv se (.slice Ae ne ce)) ai (5 * 12)) ∧ Qi W (zv sf (.slice Af nf cf)) bi (5 * 12)))) ?_ (fun Hs201 => ?_)
      · rintro a W ⟨se, Ae, ne, ce, sf, Af, nf, cf, h1, rfl, st0⟩
        have hHeld := st0.1
        have st := hide st0
        clear st0
        refine wpAnyH_ready (rs := [4]) (by kernel_rfl) (by simp) ?_
        refine AllReadyH.cons rfl (fun K hK => ?_) ?_
        · go_simp
          have st2 := Sg.make st.out (Firm2.and (Firm2.and Firm2.yes (Firm2.qi _ _ _)) (Firm2.qi _ _ _)) 0 _ rfl (by simp)
          refine hK.out _ _ st2.1 (fun hHeld => ?_)
          (try simp only [Act.put, List.setIfInBounds_toArray, List.set_cons_zero, List.set_cons_succ])
          exact Hs211.out _ _ ⟨se, Ae, ne, ce, sf, Af, nf, cf, W.heap.size, h1, rfl, st2⟩
        exact AllReadyH.nil
      refine wpAnyH_with 4 #[true, true, true, true, false, false, false, false] (fun a W => ∃ (se : Bool) (Ae : Option Addr) (ne ce : Nat) (sf : Bool) (Af : Option Addr) (nf cf : Nat), a = ⟨#[zv sa (.slice Aa na ca), zv sb (.slice Ab nb cb), .pointer (some ⟨w.heap.size, 0, none⟩), .pointer (some ⟨w.heap.size + 1, 0, none⟩), .bool false, .pointer (some ⟨g0, 0, none⟩), .pointer (some ⟨g1, 0, none⟩), undef, undef, undef, undef, undef, undef, .bool true, .bool false, zv sa (.slice Aa na ca), zv sb (.slice Ab nb cb), .bool false, zv sa (.slice Aa na ca), zv sa (.slice Ax nx cx), zv sb (.slice Ab nb cb), zv sb (.slice Ay ny cy), zv sa (.slice Aa na ca), zv se (.slice Ae ne ce), zv sb (.slice Ab nb cb), zv sf (.slice Af nf cf), undef, undef, undef, undef, undef, undef, undef, undef, undef, undef, undef, undef, undef, undef, undef, undef, undef, undef, undef, undef, undef, undef, undef, undef, undef, undef, undef, undef, undef, undef, undef, undef, undef, undef, undef, undef, undef, undef, undef, undef, undef, undef, undef, undef, undef, undef, undef, undef, undef, undef, undef, undef, undef, undef, undef, undef, undef, undef, undef, undef, undef, undef, undef, undef, undef, undef, undef, undef, undef, undef, undef, undef, undef, undef, undef, undef, undef, undef, undef, undef, undef, undef, undef, undef, undef, undef, undef, undef, undef, undef, undef, undef], []⟩ ∧ Sg w3.drew.heap.size w3.drew W [qblk, qblk] [none, none] (fun W => ((True ∧ Qi W (zv se (.slice Ae ne ce)) ai (5 * 12)) ∧ Qi W (zv sf (.slice Af nf cf)) bi (5 * 12)))) ?_ (fun Hs200 => ?_)
      · rintro a W ⟨se, Ae, ne, ce, sf, Af, nf, cf, rfl, st0⟩
        have hHeld := st0.1
        have st := hide st0
        clear st0
        refine wpAnyH_ready (rs := [4, 5]) (by kernel_rfl) (by simp) ?_
        refine AllReadyH.cons rfl (fun K hK => ?_) ?_
        · go_simp
          have st2 := Sg.make st.out (Firm2.and (Firm2.and Firm2.yes (Firm2.qi _ _ _)) (Firm2.qi _ _ _)) 0 _ rfl (by simp)
          refine hK.out _ _ st2.1 (fun hHeld => ?_)
          (try simp only [Act.put, List.setIfInBounds_toArray, List.set_cons_zero, List.set_cons_succ])
          exact Hs210.out _ _ ⟨se, Ae, ne, ce, sf, Af, nf, cf, W.heap.size, rfl, st2⟩
        refine AllReadyH.cons rfl (fun K hK => ?_) ?_
        · go_simp
          have st2 := Sg.make st.out (Firm2.and (Firm2.and Firm2.yes (Firm2.qi _ _ _)) (Firm2.qi _ _ _)) 1 _ rfl (by simp)
          refine hK.out _ _ st2.1 (fun hHeld => ?_)
          (try simp only [Act.put, List.setIfInBounds_toArray, List.set_cons_zero, List.set_cons_succ])
          exact Hs201.out _ _ ⟨se, Ae, ne, ce, sf, Af, nf, cf, W.heap.size, rfl, st2⟩
        exact AllReadyH.nil
      refine wpAnyH_with 3 #[true, true, true, false, true, true, false, false] (fun a W => ∃ (se : Bool) (Ae : Option Addr) (ne ce : Nat) (h0 : Nat) (h1 : Nat), a = ⟨#[zv sa (.slice Aa na ca), zv sb (.slice Ab nb cb), .pointer (some ⟨w.heap.size, 0, none⟩), .pointer (some ⟨w.heap.size + 1, 0, none⟩), .bool false, .pointer (some ⟨g0, 0, none⟩), .pointer (some ⟨g1, 0, none⟩), .pointer (some ⟨h0, 0, none⟩), .pointer (some ⟨h1, 0, none⟩), undef, undef, undef, undef, .bool true, .bool false, zv sa (.slice Aa na ca), zv sb (.slice Ab nb cb), .bool false, zv sa (.slice Aa na ca), zv sa (.slice Ax nx cx), zv sb (.slice Ab nb cb), zv sb (.slice Ay ny cy), zv sa (.slice Aa na ca), zv se (.slice Ae ne ce), zv sb (.slice Ab nb cb), undef, undef, undef, undef, undef, undef, undef, undef, undef, undef, undef, undef, undef, undef, undef, undef, undef, undef, undef, undef, undef, undef, undef, undef, undef, undef, undef, undef, undef, undef, undef, undef, undef, undef, undef, undef, undef, undef, undef, undef, undef, undef, undef, undef, undef, undef, undef, undef, undef, undef, undef, undef, undef, undef, undef, undef, undef, undef, undef, undef, undef, undef, undef, undef, undef, undef, undef, undef, undef, undef, undef, undef, undef, undef, undef, undef, undef, undef, undef, undef, undef, undef, undef, undef, undef, undef, undef, undef, undef, undef, undef, undef, undef], []⟩ ∧ Sg w3.drew.heap.size w3.drew W [qblk, qblk] [some h0, some h1] (fun W => (True ∧ Qi W (zv se (.slice Ae ne ce)) ai (5 * 12)))) ?_ (fun Hs111 => ?_)
      · rintro a W ⟨se, Ae, ne, ce, h0, h1, rfl, st0⟩
        have hHeld := st0.1
        have st := hide st0
        clear st0
        refine wpAnyH_ready (rs := [3]) (by kernel_rfl) (by simp) ?_
        refine AllReadyH.cons rfl (fun K hK => ?_) ?_
        · go_simp
          go_at_call 10
          refine Calls.mono (qof_any (L := 12) (HBB.out _ _ _ _ (R.out.2.1.step st.out.1)) (by omega)) ?_
          rintro e wx ⟨v9, rfl, tx, bx⟩
          obtain ⟨sf, xf, Af, nf, cf, rfl, -, -, -⟩ := id tx.parts
          try dsimp only
          have st2 := Sg.call (G := fun W => Qi W (zv sf (.slice Af nf cf)) bi (5 * 12)) st.out bx (Firm2.and Firm2.yes (Firm2.qi _ _ _)) tx
          have hSt := hide st2
          refine hK.out _ _ st2.1 (fun hHeld => ?_)
          clear hK K st2
          (try simp only [Act.put, List.setIfInBounds_toArray, List.set_cons_zero, List.set_cons_succ])
          exact Hs211.out _ _ ⟨se, Ae, ne, ce, sf, Af, nf, cf, h0, h1, rfl, hSt.out⟩
        exact AllReadyH.nil
      refine wpAnyH_with 4 #[true, true, true, false, true, false, false, false] (fun a W => ∃ (se : Bool) (Ae : Option Addr) (ne ce : Nat) (h0 : Nat), a = ⟨#[zv sa (.slice Aa na ca), zv sb (.slice Ab nb cb), .pointer (some ⟨w.heap.size, 0, none⟩), .pointer (some ⟨w.heap.size + 1, 0, none⟩), .bool false, .pointer (some ⟨g0, 0, none⟩), .pointer (some ⟨g1, 0, none⟩), .pointer (some ⟨h0, 0, none⟩), undef, undef, undef, undef, undef, .bool true, .bool false, zv sa (.slice Aa na ca), zv sb (.slice Ab nb cb), .bool false, zv sa (.slice Aa na ca), zv sa (.slice Ax nx cx), zv sb (.slice Ab nb cb), zv sb (.slice Ay ny cy), zv sa (.slice Aa na ca), zv se (.slice Ae ne ce), zv sb (.slice Ab nb cb), undef, undef, undef, undef, undef, undef, undef, undef, undef, undef, undef, undef, undef, undef, undef, undef, undef, undef, undef, undef, undef, undef, undef, undef, undef, undef, undef, undef, undef, undef, undef, undef, undef, undef, undef, undef, undef, undef, undef, undef, undef, undef, undef, undef, undef, undef, undef, undef, undef, undef, undef, undef, undef, undef, undef, undef, undef, undef, undef, undef, undef, undef, undef, undef, undef, undef, undef, undef, undef, undef, undef, undef, undef, undef, undef, undef, undef, undef, undef, undef, undef, undef, undef, undef, undef, undef, undef, undef, undef, undef, undef, undef, undef], []⟩ ∧ Sg w3.drew.heap.size w3.drew W [qblk, qblk] [some h0, none] (fun W => (True ∧ Qi W (zv se (.slice Ae ne ce)) ai (5 * 12)))) ?_ (fun Hs110 => ?_)
      · rintro a W ⟨se, Ae, ne, ce, h0, rfl, st0⟩
        have hHeld := st0.1
        have st := hide st0
        clear st0
        refine wpAnyH_ready (rs := [3, 5]) (by kernel_rfl) (by simp) ?_
        refine AllReadyH.cons rfl (fun K hK => ?_) ?_
        · go_simp
          go_at_call 10
          refine Calls.mono (qof_any (L := 12) (HBB.out _ _ _ _ (R.out.2.1.step st.out.1)) (by omega)) ?_
          rintro e wx ⟨v9, rfl, tx, bx⟩
          obtain ⟨sf, xf, Af, nf, cf, rfl, -, -, -⟩ := id tx.parts
          try dsimp only
          have st2 := Sg.call (G := fun W => Qi W (zv sf (.slice Af nf cf)) bi (5 * 12)) st.out bx (Firm2.and Firm2.yes (Firm2.qi _ _ _)) tx
          have hSt := hide st2
          refine hK.out _ _ st2.1 (fun hHeld => ?_)
          clear hK K st2
          (try simp only [Act.put, List.setIfInBounds_toArray, List.set_cons_zero, List.set_cons_succ])
          exact Hs210.out _ _ ⟨se, Ae, ne, ce, sf, Af, nf, cf, h0, rfl, hSt.out⟩
        refine AllReadyH.cons rfl (fun K hK => ?_) ?_
        · go_simp
          have st2 := Sg.make st.out (Firm2.and Firm2.yes (Firm2.qi _ _ _)) 1 _ rfl (by simp)
          refine hK.out _ _ st2.1 (fun hHeld => ?_)
          (try simp only [Act.put, List.setIfInBounds_toArray, List.set_cons_zero, List.set_cons_succ])
          exact Hs111.out _ _ ⟨se, Ae, ne, ce, h0, W.heap.size, rfl, st2⟩
        exact AllReadyH.nil
      refine wpAnyH_with 4 #[true, true, true, false, false, true, false, false] (fun a W => ∃ (se : Bool) (Ae : Option Addr) (ne ce : Nat) (h1 : Nat), a = ⟨#[zv sa (.slice Aa na ca), zv sb (.slice Ab nb cb), .pointer (some ⟨w.heap.size, 0, none⟩), .pointer (some ⟨w.heap.size + 1, 0, none⟩), .bool false, .pointer (some ⟨g0, 0, none⟩), .pointer (some ⟨g1, 0, none⟩), undef, .pointer (some ⟨h1, 0, none⟩), undef, undef, undef, undef, .bool true, .bool false, zv sa (.slice Aa na ca), zv sb (.slice Ab nb cb), .bool false, zv sa (.slice Aa na ca), zv sa (.slice Ax nx cx), zv sb (.slice Ab nb cb), zv sb (.slice Ay ny cy), zv sa (.slice Aa na ca), zv se (.slice Ae ne ce), zv sb (.slice Ab nb cb), undef, undef, undef, undef, undef, undef, undef, undef, undef, undef, undef, undef, undef, undef, undef, undef, undef, undef, undef, undef, undef, undef, undef, undef, undef, undef, undef, undef, undef, undef, undef, undef, undef, undef, undef, undef, undef, undef, undef, undef, undef, undef, undef, undef, undef, undef, undef, undef, undef, undef, undef, undef, undef, undef, undef, undef, undef, undef, undef, undef, undef, undef, undef, undef, undef, undef, undef, undef, undef, undef, undef, undef, undef, undef, undef, undef, undef, undef, undef, undef, undef, undef, undef, undef, undef, undef, undef, undef, undef, undef, undef, undef, undef], []⟩ ∧ Sg w3.drew.heap.size w3.drew W [qblk, qblk] [none, some h1] (fun W => (True ∧ Qi W (zv se (.slice Ae ne ce)) ai (5 * 12)))) ?_ (fun Hs101 => ?_)
      · rintro a W ⟨se, Ae, ne, ce, h1, rfl, st0⟩
        have hHeld := st0.1
        have st := hide st0
        clear st0
        refine wpAnyH_ready (rs := [3, 4]) (by kernel_rfl) (by simp) ?_
        refine AllReadyH.cons rfl (fun K hK => ?_) ?_
        · go_simp
          go_at_call 10
          refine Calls.mono (qof_any (L := 12) (HBB.out _ _ _ _ (R.out.2.1.step st.out.1)) (by omega)) ?_
          rintro e wx ⟨v9, rfl, tx, bx⟩
          obtain ⟨sf, xf, Af, nf, cf, rfl, -, -, -⟩ := id tx.parts
          try dsimp only
          have st2 := Sg.call (G := fun W => Qi W (zv sf (.slice Af nf cf)) bi (5 * 12)) st.out bx (Firm2.and Firm2.yes (Firm2.qi _ _ _)) tx
          have hSt := hide st2
          refine hK.out _ _ st2.1 (fun hHeld => ?_)
          clear hK K st2
          (try simp only [Act.put, List.setIfInBounds_toArray, List.set_cons_zero, List.set_cons_succ])
          exact Hs201.out _ _ ⟨se, Ae, ne, ce, sf, Af, nf, cf, h1, rfl, hSt.out⟩
        refine AllReadyH.cons rfl (fun K hK => ?_) ?_
        · go_simp
          have st2 := Sg.make st.out (Firm2.and Firm2.yes (Firm2.qi _ _ _)) 0 _ rfl (by simp)
          refine hK.out _ _ st2.1 (fun hHeld => ?_)
          (try simp only [Act.put, List.setIfInBounds_toArray, List.set_cons_zero, List.set_cons_succ])
          exact Hs111.out _ _ ⟨se, Ae, ne, ce, W.heap.size, h1, rfl, st2⟩
        exact AllReadyH.nil
      refine wpAnyH_with 5 #[true, true, true, false, false, false, false, false] (fun a W => ∃ (se : Bool) (Ae : Option Addr) (ne ce : Nat), a = ⟨#[zv sa (.slice Aa na ca), zv sb (.slice Ab nb cb), .pointer (some ⟨w.heap.size, 0, none⟩), .pointer (some ⟨w.heap.size + 1, 0, none⟩), .bool false, .pointer (some ⟨g0, 0, none⟩), .pointer (some ⟨g1, 0, none⟩), undef, undef, undef, undef, undef, undef, .bool true, .bool false, zv sa (.slice Aa na ca), zv sb (.slice Ab nb cb), .bool false, zv sa (.slice Aa na ca), zv sa (.slice Ax nx cx), zv sb (.slice Ab nb cb), zv sb (.slice Ay ny cy), zv sa (.slice Aa na ca), zv se (.slice Ae ne ce), zv sb (.slice Ab nb cb), undef, undef, undef, undef, undef, undef, undef, undef, undef, undef, undef, undef, undef, undef, undef, undef, undef, undef, undef, undef, undef, undef, undef, undef, undef, undef, undef, undef, undef, undef, undef, undef, undef, undef, undef, undef, undef, undef, undef, undef, undef, undef, undef, undef, undef, undef, undef, undef, undef, undef, undef, undef, undef, undef, undef, undef, undef, undef, undef, undef, undef, undef, undef, undef, undef, undef, undef, undef, undef, undef, undef, undef, undef, undef, undef, undef, undef, undef, undef, undef, undef, undef, undef, undef, undef, undef, undef, undef, undef, undef, undef, undef, undef], []⟩ ∧ Sg w3.drew.heap.size w3.drew W [qblk, qblk] [none, none] (fun W => (True ∧ Qi W (zv se (.slice Ae ne ce)) ai (5 * 12)))) ?_ (fun Hs100 => ?_)
      · rintro a W ⟨se, Ae, ne, ce, rfl, st0⟩
        have hHeld := st0.1
        have st := hide st0
        clear st0
        refine wpAnyH_ready (rs := [3, 4, 5]) (by kernel_rfl) (by simp) ?_
        refine AllReadyH.cons rfl (fun K hK => ?_) ?_
        · go_simp
          go_at_call 10
          refine Calls.mono (qof_any (L := 12) (HBB.out _ _ _ _ (R.out.2.1.step st.out.1)) (by omega)) ?_
          rintro e wx ⟨v9, rfl, tx, bx⟩
          obtain ⟨sf, xf, Af, nf, cf, rfl, -, -, -⟩ := id tx.parts
          try dsimp only
          have st2 := Sg.call (G := fun W => Qi W (zv sf (.slice Af nf cf)) bi (5 * 12)) st.out bx (Firm2.and Firm2.yes (Firm2.qi _ _ _)) tx
          have hSt := hide st2
          refine hK.out _ _ st2.1 (fun hHeld => ?_)
          clear hK K st2
          (try simp only [Act.put, List.setIfInBounds_toArray, List.set_cons_zero, List.set_cons_succ])
          exact Hs200.out _ _ ⟨se, Ae, ne, ce, sf, Af, nf, cf, rfl, hSt.out⟩
        refine AllReadyH.cons rfl (fun K hK => ?_) ?_
        · go_simp
          have st2 := Sg.make st.out (Firm2.and Firm2.yes (Firm2.qi _ _ _)) 0 _ rfl (by simp)
          refine hK.out _ _ st2.1 (fun hHeld => ?_)
          (try simp only [Act.put, List.setIfInBounds_toArray, List.set_cons_zero, List.set_cons_succ])
          exact Hs110.out _ _ ⟨se, Ae, ne, ce, W.heap.size, rfl, st2⟩
        refine AllReadyH.cons rfl (fun K hK => ?_) ?_
        · go_simp
          have st2 := Sg.make st.out (Firm2.and Firm2.yes (Firm2.qi _ _ _)) 1 _ rfl (by simp)
          refine hK.out _ _ st2.1 (fun hHeld => ?_)
          (try simp only [Act.put, List.setIfInBounds_toArray, List.set_cons_zero, List.set_cons_succ])
          exact Hs101.out _ _ ⟨se, Ae, ne, ce, W.heap.size, rfl, st2⟩
        exact AllReadyH.nil
      refine wpAnyH_with 4 #[true, false, true, false, true, true, false, false] (fun a W => ∃ (h0 : Nat) (h1 : Nat), a = ⟨#[zv sa (.slice Aa na ca), zv sb (.slice Ab nb cb), .pointer (some ⟨w.heap.size, 0, none⟩), .pointer (some ⟨w.heap.size + 1, 0, none⟩), .bool false, .pointer (some ⟨g0, 0, none⟩), .pointer (some ⟨g1, 0, none⟩), .pointer (some ⟨h0, 0, none⟩), .pointer (some ⟨h1, 0, none⟩), undef, undef, undef, undef, .bool true, .bool false, zv sa (.slice Aa na ca), zv sb (.slice Ab nb cb), .bool false, zv sa (.slice Aa na ca), zv sa (.slice Ax nx cx), zv sb (.slice Ab nb cb), zv sb (.slice Ay ny cy), zv sa (.slice Aa na ca), undef, zv sb (.slice Ab nb cb), undef, undef, undef, undef, undef, undef, undef, undef, undef, undef, undef, undef, undef, undef, undef, undef, undef, undef, undef, undef, undef, undef, undef, undef, undef, undef, undef, undef, undef, undef, undef, undef, undef, undef, undef, undef, undef, undef, undef, undef, undef, undef, undef, undef, undef, undef, undef, undef, undef, undef, undef, undef, undef, undef, undef, undef, undef, undef, undef, undef, undef, undef, undef, undef, undef, undef, undef, undef, undef, undef, undef, undef, undef, undef, undef, undef, undef, undef, undef, undef, undef, undef, undef, undef, undef, undef, undef, undef, undef, undef, undef, undef, undef], []⟩ ∧ Sg w3.drew.heap.size w3.drew W [qblk, qblk] [some h0, some h1] (fun W => True)) ?_ (fun Hs011 => ?_)
      · rintro a W ⟨h0, h1, rfl, st0⟩
        have hHeld := st0.1
        have st := hide st0
        clear st0
        refine wpAnyH_ready (rs := [1]) (by kernel_rfl) (by simp) ?_
        refine AllReadyH.cons rfl (fun K hK => ?_) ?_
        · go_simp
          go_at_call 10
          refine Calls.mono (qof_any (L := 12) (HA.out _ _ _ _ (R.out.1.step st.out.1)) (by omega)) ?_
          rintro e wx ⟨v9, rfl, tx, bx⟩
          obtain ⟨se, xe, Ae, ne, ce, rfl, -, -, -⟩ := id tx.parts
          try dsimp only
          have st2 := Sg.call (G := fun W => Qi W (zv se (.slice Ae ne ce)) ai (5 * 12)) st.out bx Firm2.yes tx
          have hSt := hide st2
          refine hK.out _ _ st2.1 (fun hHeld => ?_)
          clear hK K st2
          (try simp only [Act.put, List.setIfInBounds_toArray, List.set_cons_zero, List.set_cons_succ])
          exact Hs111.out _ _ ⟨se, Ae, ne, ce, h0, h1, rfl, hSt.out⟩
        exact AllReadyH.nil
      refine wpAnyH_with 5 #[true, false, true, false, true, false, false, false] (fun a W => ∃ (h0 : Nat), a = ⟨#[zv sa (.slice Aa na ca), zv sb (.slice Ab nb cb), .pointer (some ⟨w.heap.size, 0, none⟩), .pointer (some ⟨w.heap.size + 1, 0, none⟩), .bool false, .pointer (some ⟨g0, 0, none⟩), .pointer (some ⟨g1, 0, none⟩), .pointer (some ⟨h0, 0, none⟩), undef, undef, undef, undef, undef, .bool true, .bool false, zv sa (.slice Aa na ca), zv sb (.slice Ab nb cb), .bool false, zv sa (.slice Aa na ca), zv sa (.slice Ax nx cx), zv sb (.slice Ab nb cb), zv sb (.slice Ay ny cy), zv sa (.slice Aa na ca), undef, zv sb (.slice Ab nb cb), undef, undef, undef, undef, undef, undef, undef, undef, undef, undef, undef, undef, undef, undef, undef, undef, undef, undef, undef, undef, undef, undef, undef, undef, undef, undef, undef, undef, undef, undef, undef, undef, undef, undef, undef, undef, undef, undef, undef, undef, undef, undef, undef, undef, undef, undef, undef, undef, undef, undef, undef, undef, undef, undef, undef, undef, undef, undef, undef, undef, undef, undef, undef, undef, undef, undef, undef, undef, undef, undef, undef, undef, undef, undef, undef, undef, undef, undef, undef, undef, undef, undef, undef, undef, undef, undef, undef, undef, undef, undef, undef, undef, undef], []⟩ ∧ Sg w3.drew.heap.size w3.drew W [qblk, qblk] [some h0, none] (fun W => True)) ?_ (fun Hs010 => ?_)
      · rintro a W ⟨h0, rfl, st0⟩
        have hHeld := st0.1
        have st := hide st0
        clear st0
        refine wpAnyH_ready (rs := [1, 5]) (by kernel_rfl) (by simp) ?_
        refine AllReadyH.cons rfl (fun K hK => ?_) ?_
        · go_simp
          go_at_call 10
          refine Calls.mono (qof_any (L := 12) (HA.out _ _ _ _ (R.out.1.step st.out.1)) (by omega)) ?_
          rintro e wx ⟨v9, rfl, tx, bx⟩
          obtain ⟨se, xe, Ae, ne, ce, rfl, -, -, -⟩ := id tx.parts
          try dsimp only
          have st2 := Sg.call (G := fun W => Qi W (zv se (.slice Ae ne ce)) ai (5 * 12)) st.out bx Firm2.yes tx
          have hSt := hide st2
          refine hK.out _ _ st2.1 (fun hHeld => ?_)
          clear hK K st2
          (try simp only [Act.put, List.setIfInBounds_toArray, List.set_cons_zero, List.set_cons_succ])
          exact Hs110.out _ _ ⟨se, Ae, ne, ce, h0, rfl, hSt.out⟩
        refine AllReadyH.cons rfl (fun K hK => ?_) ?_
        · go_simp
          have st2 := Sg.make st.out Firm2.yes 1 _ rfl (by simp)
          refine hK.out _ _ st2.1 (fun hHeld => ?_)
          (try simp only [Act.put, List.setIfInBounds_toArray, List.set_cons_zero, List.set_cons_succ])
          exact Hs011.out _ _ ⟨h0, W.heap.size, rfl, st2⟩
        exact AllReadyH.nil
      refine wpAnyH_with 5 #[true, false, true, false, false, true, false, false] (fun a W => ∃ (h1 : Nat), a = ⟨#[zv sa (.slice Aa na ca), zv sb (.slice Ab nb cb), .pointer (some ⟨w.heap.size, 0, none⟩), .pointer (some ⟨w.heap.size + 1, 0, none⟩), .bool false, .pointer (some ⟨g0, 0, none⟩), .pointer (some ⟨g1, 0, none⟩), undef, .pointer (some ⟨h1, 0, none⟩), undef, undef, undef, undef, .bool true, .bool false, zv sa (.slice Aa na ca), zv sb (.slice Ab nb cb), .bool false, zv sa (.slice Aa na ca), zv sa (.slice Ax nx cx), zv sb (.slice Ab nb cb), zv sb (.slice Ay ny cy), zv sa (.slice Aa na ca), undef, zv sb (.slice Ab nb cb), undef, undef, undef, undef, undef, undef, undef, undef, undef, undef, undef, undef, undef, undef, undef, undef, undef, undef, undef, undef, undef, undef, undef, undef, undef, undef, undef, undef, undef, undef, undef, undef, undef, undef, undef, undef, undef, undef, undef, undef, undef, undef, undef, undef, undef, undef, undef, undef, undef, undef, undef, undef, undef, undef, undef, undef, undef, undef, undef, undef, undef, undef, undef, undef, undef, undef, undef, undef, undef, undef, undef, undef, undef, undef, undef, undef, undef, undef, undef, undef, undef, undef, undef, undef, undef, undef, undef, undef, undef, undef, undef, undef, undef], []⟩ ∧ Sg w3.drew.heap.size w3.drew W [qblk, qblk] [none, some h1] (fun W => True)) ?_ (fun Hs001 => ?_)
      · rintro a W ⟨h1, rfl, st0⟩
        have hHeld := st0.1
        have st := hide st0
        clear st0
        refine wpAnyH_ready (rs := [1, 4]) (by kernel_rfl) (by simp) ?_
        refine AllReadyH.cons rfl (fun K hK => ?_) ?_
        · go_simp
          go_at_call 10
          refine Calls.mono (qof_any (L := 12) (HA.out _ _ _ _ (R.out.1.step st.out.1)) (by omega)) ?_
          rintro e wx ⟨v9, rfl, tx, bx⟩
          obtain ⟨se, xe, Ae, ne, ce, rfl, -, -, -⟩ := id tx.parts
          try dsimp only
          have st2 := Sg.call (G := fun W => Qi W (zv se (.slice Ae ne ce)) ai (5 * 12)) st.out bx Firm2.yes tx
          have hSt := hide st2
          refine hK.out _ _ st2.1 (fun hHeld => ?_)
          clear hK K st2
          (try simp only [Act.put, List.setIfInBounds_toArray, List.set_cons_zero, List.set_cons_succ])
          exact Hs101.out _ _ ⟨se, Ae, ne, ce, h1, rfl, hSt.out⟩
        refine AllReadyH.cons rfl (fun K hK => ?_) ?_
        · go_simp
          have st2 := Sg.make st.out Firm2.yes 0 _ rfl (by simp)
          refine hK.out _ _ st2.1 (fun hHeld => ?_)
          (try simp only [Act.put, List.setIfInBounds_toArray, List.set_cons_zero, List.set_cons_succ])
          exact Hs011.out _ _ ⟨W.heap.size, h1, rfl, st2⟩
        exact AllReadyH.nil
      refine wpAnyH_take (i := 0) (v := ?_) rfl (by kernel_rfl) (by kernel_rfl) (by kernel_rfl) (fun _ _ _ h => h) (Or.inl ⟨?_, ?_⟩) (by assumption) ?_
      rotate_left
      · rfl
      · (intro w hSw; have e0 := cell_keep P.out.1.1 hSw; have e1 := cell_keep P.out.1.2 hSw; go_simp; try with_reducible rfl)
      (try simp only [Act.put, List.setIfInBounds_toArray, List.set_cons_zero, List.set_cons_succ])
      refine wpAnyH_take (i := 2) (v := ?_) rfl (by kernel_rfl) (by kernel_rfl) (by kernel_rfl) (fun _ _ _ h => h) (Or.inl ⟨?_, ?_⟩) (by assumption) ?_
      rotate_left
      · rfl
      · (intro w hSw; have e0 := cell_keep P.out.2.1.1 hSw; have e1 := cell_keep P.out.2.1.2 hSw; go_simp; try with_reducible rfl)
      (try simp only [Act.put, List.setIfInBounds_toArray, List.set_cons_zero, List.set_cons_succ])
      refine wpAnyH_with 6 #[true, false, true, false, false, false, false, false] (fun a W => a = ⟨#[zv sa (.slice Aa na ca), zv sb (.slice Ab nb cb), .pointer (some ⟨w.heap.size, 0, none⟩), .pointer (some ⟨w.heap.size + 1, 0, none⟩), .bool false, .pointer (some ⟨g0, 0, none⟩), .pointer (some ⟨g1, 0, none⟩), undef, undef, undef, undef, undef, undef, .bool true, .bool false, zv sa (.slice Aa na ca), zv sb (.slice Ab nb cb), .bool false, zv sa (.slice Aa na ca), zv sa (.slice Ax nx cx), zv sb (.slice Ab nb cb), zv sb (.slice Ay ny cy), zv sa (.slice Aa na ca), undef, zv sb (.slice Ab nb cb), undef, undef, undef, undef, undef, undef, undef, undef, undef, undef, undef, undef, undef, undef, undef, undef, undef, undef, undef, undef, undef, undef, undef, undef, undef, undef, undef, undef, undef, undef, undef, undef, undef, undef, undef, undef, undef, undef, undef, undef, undef, undef, undef, undef, undef, undef, undef, undef, undef, undef, undef, undef, undef, undef, undef, undef, undef, undef, undef, undef, undef, undef, undef, undef, undef, undef, undef, undef, undef, undef, undef, undef, undef, undef, undef, undef, undef, undef, undef, undef, undef, undef, undef, undef, undef, undef, undef, undef, undef, undef, undef, undef, undef], []⟩ ∧ Sg w3.drew.heap.size w3.drew W [qblk, qblk] [none, none] (fun W => True)) ?_ (fun Hs => Hs.out _ _ ⟨rfl, Sg.start _ _ 2⟩)
      rintro a W ⟨rfl, st0⟩
      have hHeld := st0.1
      have st := hide st0
      clear st0
      refine wpAnyH_ready (rs := [1, 4, 5]) (by kernel_rfl) (by simp) ?_
      refine AllReadyH.cons rfl (fun K hK => ?_) ?_
      · go_simp
        go_at_call 10
        refine Calls.mono (qof_any (L := 12) (HA.out _ _ _ _ (R.out.1.step st.out.1)) (by omega)) ?_
        rintro e wx ⟨v9, rfl, tx, bx⟩
        obtain ⟨se, xe, Ae, ne, ce, rfl, -, -, -⟩ := id tx.parts
        try dsimp only
        have st2 := Sg.call (G := fun W => Qi W (zv se (.slice Ae ne ce)) ai (5 * 12)) st.out bx Firm2.yes tx
        have hSt := hide st2
        refine hK.out _ _ st2.1 (fun hHeld => ?_)
        clear hK K st2
        (try simp only [Act.put, List.setIfInBounds_toArray, List.set_cons_zero, List.set_cons_succ])
        exact Hs100.out _ _ ⟨se, Ae, ne, ce, rfl, hSt.out⟩
      refine AllReadyH.cons rfl (fun K hK => ?_) ?_
      · go_simp
        have st2 := Sg.make st.out Firm2.yes 0 _ rfl (by simp)
        refine hK.out _ _ st2.1 (fun hHeld => ?_)
        (try simp only [Act.put, List.setIfInBounds_toArray, List.set_cons_zero, List.set_cons_succ])
        exact Hs010.out _ _ ⟨W.heap.size, rfl, st2⟩
      refine AllReadyH.cons rfl (fun K hK => ?_) ?_
      · go_simp
        have st2 := Sg.make st.out Firm2.yes 1 _ rfl (by simp)
        refine hK.out _ _ st2.1 (fun hHeld => ?_)
        (try simp only [Act.put, List.setIfInBounds_toArray, List.set_cons_zero, List.set_cons_succ])
        exact Hs001.out _ _ ⟨W.heap.size, rfl, st2⟩
      exact AllReadyH.nil
    refine wpAnyH_with 3 #[true, true, true, true, true, false, false, false] (fun a W => ∃ (Ax : Option Addr) (nx cx : Nat) (Ay : Option Addr) (ny cy : Nat) (g0 : Nat), a = ⟨#[zv sa (.slice Aa na ca), zv sb (.slice Ab nb cb), .pointer (some ⟨w.heap.size, 0, none⟩), .pointer (some ⟨w.heap.size + 1, 0, none⟩), .bool false, .pointer (some ⟨g0, 0, none⟩), undef, undef, undef, undef, undef, undef, undef, .bool true, .bool false, zv sa (.slice Aa na ca), zv sb (.slice Ab nb cb), .bool false, zv sa (.slice Aa na ca), zv sa (.slice Ax nx cx), zv sb (.slice Ab nb cb), zv sb (.slice Ay ny cy), undef, undef, undef, undef, undef, undef, undef, undef, undef, undef, undef, undef, undef, undef, undef, undef, undef, undef, undef, undef, undef, undef, undef, undef, undef, undef, undef, undef, undef, undef, undef, undef, undef, undef, undef, undef, undef, undef, undef, undef, undef, undef, undef, undef, undef, undef, undef, undef, undef, undef, undef, undef, undef, undef, undef, undef, undef, undef, undef, undef, undef, undef, undef, undef, undef, undef, undef, undef, undef, undef, undef, undef, undef, undef, undef, undef, undef, undef, undef, undef, undef, undef, undef, undef, undef, undef, undef, undef, undef, undef, undef, undef, undef, undef, undef, undef], []⟩ ∧ Sg w2.drew.heap.size w2.drew W [zblk, zblk] [some g0, none] (fun W => ((True ∧ Lw W (.slice Ax nx cx) xsa 12) ∧ Lw W (.slice Ay ny cy) xsb 12))) ?_ (fun Hs210 => ?_)
    · rintro a W ⟨Ax, nx, cx, Ay, ny, cy, g0, rfl, st0⟩
      have hHeld := st0.1
      have st := hide st0
      clear st0
      refine wpAnyH_ready (rs := [5]) (by kernel_rfl) (by simp) ?_
      refine AllReadyH.cons rfl (fun K hK => ?_) ?_
      · go_simp
        have st2 := Sg.make st.out (Firm2.and (Firm2.and Firm2.yes (Firm2.lw _ _ _)) (Firm2.lw _ _ _)) 1 _ rfl (by simp)
        refine hK.out _ _ st2.1 (fun hHeld => ?_)
        (try simp only [Act.put, List.setIfInBounds_toArray, List.set_cons_zero, List.set_cons_succ])
        exact Hs211.out _ _ ⟨Ax, nx, cx, Ay, ny, cy, g0, W.heap.size, rfl, st2⟩
      exact AllReadyH.nil
    refine wpAnyH_with 3 #[true, true, true, true, false, true, false, false] (fun a W => ∃ (Ax : Option Addr) (nx cx : Nat) (Ay : Option Addr) (ny cy : Nat) (g1 : Nat), a = ⟨#[zv sa (.slice Aa na ca), zv sb (.slice Ab nb cb), .pointer (some ⟨w.heap.size, 0, none⟩), .pointer (some ⟨w.heap.size + 1, 0, none⟩), .bool false, undef, .pointer (some ⟨g1, 0, none⟩), undef, undef, undef, undef, undef, undef, .bool true, .bool false, zv sa (.slice Aa na ca), zv sb (.slice Ab nb cb), .bool false, zv sa (.slice Aa na ca), zv sa (.slice Ax nx cx), zv sb (.slice Ab nb cb), zv sb (.slice Ay ny cy), undef, undef, undef, undef, undef, undef, undef, undef, undef, undef, undef, undef, undef, undef, undef, undef, undef, undef, undef, undef, undef, undef, undef, undef, undef, undef, undef, undef, undef, undef, undef, undef, undef, undef, undef, undef, undef, undef, undef, undef, undef, undef, undef, undef, undef, undef, undef, undef, undef, undef, undef, undef, undef, undef, undef, undef, undef, undef, undef, undef, undef, undef, undef, undef, undef, undef, undef, undef, undef, undef, undef, undef, undef, undef, undef, undef, undef, undef, undef, undef, undef, undef, undef, undef, undef, undef, undef, undef, undef, undef, undef, undef, undef, undef, undef, undef], []⟩ ∧ Sg w2.drew.heap.size w2.drew W [zblk, zblk] [none, some g1] (fun W => ((True ∧ Lw W (.slice Ax nx cx) xsa 12) ∧ Lw W (.slice Ay ny cy) xsb 12))) ?_ (fun Hs201 => ?_)
    · rintro a W ⟨Ax, nx, cx, Ay, ny, cy, g1, rfl, st0⟩
      have hHeld := st0.1
      have st := hide st0
      clear st0
      refine wpAnyH_ready (rs := [4]) (by kernel_rfl) (by simp) ?_
      refine AllReadyH.cons rfl (fun K hK => ?_) ?_
      · go_simp
        have st2 := Sg.make st.out (Firm2.and (Firm2.and Firm2.yes (Firm2.lw _ _ _)) (Firm2.lw _ _ _)) 0 _ rfl (by simp)
        refine hK.out _ _ st2.1 (fun hHeld => ?_)
        (try simp only [Act.put, List.setIfInBounds_toArray, List.set_cons_zero, List.set_cons_succ])
        exact Hs211.out _ _ ⟨Ax, nx, cx, Ay, ny, cy, W.heap.size, g1, rfl, st2⟩
      exact AllReadyH.nil
    refine wpAnyH_with 4 #[true, true, true, true, false, false, false, false] (fun a W => ∃ (Ax : Option Addr) (nx cx : Nat) (Ay : Option Addr) (ny cy : Nat), a = ⟨#[zv sa (.slice Aa na ca), zv sb (.slice Ab nb cb), .pointer (some ⟨w.heap.size, 0, none⟩), .pointer (some ⟨w.heap.size + 1, 0, none⟩), .bool false, undef, undef, undef, undef, undef, undef, undef, undef, .bool true, .bool false, zv sa (.slice Aa na ca), zv sb (.slice Ab nb cb), .bool false, zv sa (.slice Aa na ca), zv sa (.slice Ax nx cx), zv sb (.slice Ab nb cb), zv sb (.slice Ay ny cy), undef, undef, undef, undef, undef, undef, undef, undef, undef, undef, undef, undef, undef, undef, undef, undef, undef, undef, undef, undef, undef, undef, undef, undef, undef, undef, undef, undef, undef, undef, undef, undef, undef, undef, undef, undef, undef, undef, undef, undef, undef, undef, undef, undef, undef, undef, undef, undef, undef, undef, undef, undef, undef, undef, undef, undef, undef, undef, undef, undef, undef, undef, undef, undef, undef, undef, undef, undef, undef, undef, undef, undef, undef, undef, undef, undef, undef, undef, undef, undef, undef, undef, undef, undef, undef, undef, undef, undef, undef, undef, undef, undef, undef, undef, undef, undef], []⟩ ∧ Sg w2.drew.heap.size w2.drew W [zblk, zblk] [none, none] (fun W => ((True ∧ Lw W (.slice Ax nx cx) xsa 12) ∧ Lw W (.slice Ay ny cy) xsb 12))) ?_ (fun Hs200 => ?_)
    · rintro a W ⟨Ax, nx, cx, Ay, ny, cy, rfl, st0⟩
      have hHeld := st0.1
      have st := hide st0
      clear st0
      refine wpAnyH_ready (rs := [4, 5]) (by kernel_rfl) (by simp) ?_
      refine AllReadyH.cons rfl (fun K hK => ?_) ?_
      · go_simp
        have st2 := Sg.make st.out (Firm2.and (Firm2.and Firm2.yes (Firm2.lw _ _ _)) (Firm2.lw _ _ _)) 0 _ rfl (by simp)
        refine hK.out _ _ st2.1 (fun hHeld => ?_)
        (try simp only [Act.put, List.setIfInBounds_toArray, List.set_cons_zero, List.set_cons_succ])
        exact Hs210.out _ _ ⟨Ax, nx, cx, Ay, ny, cy, W.heap.size, rfl, st2⟩
      refine AllReadyH.cons rfl (fun K hK => ?_) ?_
      · go_simp
        have st2 := Sg.make st.out (Firm2.and (Firm2.and Firm2.yes (Firm2.lw _ _ _)) (Firm2.lw _ _ _)) 1 _ rfl (by simp)
        refine hK.out _ _ st2.1 (fun hHeld => ?_)
        (try simp only [Act.put, List.setIfInBounds_toArray, List.set_cons_zero, List.set_cons_succ])
        exact Hs201.out _ _ ⟨Ax, nx, cx, Ay, ny, cy, W.heap.size, rfl, st2⟩
      exact AllReadyH.nil
    refine wpAnyH_with 3 #[true, true, true, false, true, true, false, false] (fun a W => ∃ (Ax : Option Addr) (nx cx : Nat) (g0 : Nat) (g1 : Nat), a = ⟨#[zv sa (.slice Aa na ca), zv sb (.slice Ab nb cb), .pointer (some ⟨w.heap.size, 0, none⟩), .pointer (some ⟨w.heap.size + 1, 0, none⟩), .bool false, .pointer (some ⟨g0, 0, none⟩), .pointer (some ⟨g1, 0, none⟩), undef, undef, undef, undef, undef, undef, .bool true, .bool false, zv sa (.slice Aa na ca), zv sb (.slice Ab nb cb), .bool false, zv sa (.slice Aa na ca), zv sa (.slice Ax nx cx), zv sb (.slice Ab nb cb), undef, undef, undef, undef, undef, undef, undef, undef, undef, undef, undef, undef, undef, undef, undef, undef, undef, undef, undef, undef, undef, undef, undef, undef, undef, undef, undef, undef, undef, undef, undef, undef, undef, undef, undef, undef, undef, undef, undef, undef, undef, undef, undef, undef, undef, undef, undef, undef, undef, undef, undef, undef, undef, undef, undef, undef, undef, undef, undef, undef, undef, undef, undef, undef, undef, undef, undef, undef, undef, undef, undef, undef, undef, undef, undef, undef, undef, undef, undef, undef, undef, undef, undef, undef, undef, undef, undef, undef, undef, undef, undef, undef, undef, undef, undef, undef, undef], []⟩ ∧ Sg w2.drew.heap.size w2.drew W [zblk, zblk] [some g0, some g1] (fun W => (True ∧ Lw W (.slice Ax nx cx) xsa 12))) ?_ (fun Hs111 => ?_)
    · rintro a W ⟨Ax, nx, cx, g0, g1, rfl, st0⟩
      have hHeld := st0.1
      have st := hide st0
      clear st0
      refine wpAnyH_ready (rs := [3]) (by kernel_rfl) (by simp) ?_
      refine AllReadyH.cons rfl (fun K hK => ?_) ?_
      · go_simp
        go_at_call 9
        refine Calls.mono (zcopy_l (L := 12) (R.out.2.step st.out.1) (by omega)) ?_
        rintro e wx ⟨v9, rfl, tx, bx⟩
        obtain ⟨Ay, ny, cy, rfl⟩ := tx.nw.slice
        try dsimp only
        have st2 := Sg.call (G := fun W => Lw W (.slice Ay ny cy) xsb 12) st.out bx (Firm2.and Firm2.yes (Firm2.lw _ _ _)) tx
        have hSt := hide st2
        refine hK.out _ _ st2.1 (fun hHeld => ?_)
        clear hK K st2
        (try simp only [Act.put, List.setIfInBounds_toArray, List.set_cons_zero, List.set_cons_succ])
        exact Hs211.out _ _ ⟨Ax, nx, cx, Ay, ny, cy, g0, g1, rfl, hSt.out⟩
      exact AllReadyH.nil
    refine wpAnyH_with 4 #[true, true, true, false, true, false, false, false] (fun a W => ∃ (Ax : Option Addr) (nx cx : Nat) (g0 : Nat), a = ⟨#[zv sa (.slice Aa na ca), zv sb (.slice Ab nb cb), .pointer (some ⟨w.heap.size, 0, none⟩), .pointer (some ⟨w.heap.size + 1, 0, none⟩), .bool false, .pointer (some ⟨g0, 0, none⟩), undef, undef, undef, undef, undef, undef, undef, .bool true, .bool false, zv sa (.slice Aa na ca), zv sb (.slice Ab nb cb), .bool false, zv sa (.slice Aa na ca), zv sa (.slice Ax nx cx), zv sb (.slice Ab nb cb), undef, undef, undef, undef, undef, undef, undef, undef, undef, undef, undef, undef, undef, undef, undef, undef, undef, undef, undef, undef, undef, undef, undef, undef, undef, undef, undef, undef, undef, undef, undef, undef, undef, undef, undef, undef, undef, undef, undef, undef, undef, undef, undef, undef, undef, undef, undef, undef, undef, undef, undef, undef, undef, undef, undef, undef, undef, undef, undef, undef, undef, undef, undef, undef, undef, undef, undef, undef, undef, undef, undef, undef, undef, undef, undef, undef, undef, undef, undef, undef, undef, undef, undef, undef, undef, undef, undef, undef, undef, undef, undef, undef, undef, undef, undef, undef, undef], []⟩ ∧ Sg w2.drew.heap.size w2.drew W [zblk, zblk] [some g0, none] (fun W => (True ∧ Lw W (.slice Ax nx cx) xsa 12))) ?_ (fun Hs110 => ?_)
    · rintro a W ⟨Ax, nx, cx, g0, rfl, st0⟩
      have hHeld := st0.1
      have st := hide st0
      clear st0
      refine wpAnyH_ready (rs := [3, 5]) (by kernel_rfl) (by simp) ?_
      refine AllReadyH.cons rfl (fun K hK => ?_) ?_
      · go_simp
        go_at_call 9
        refine Calls.mono (zcopy_l (L := 12) (R.out.2.step st.out.1) (by omega)) ?_
        rintro e wx ⟨v9, rfl, tx, bx⟩
        obtain ⟨Ay, ny, cy, rfl⟩ := tx.nw.slice
        try dsimp only
        have st2 := Sg.call (G := fun W => Lw W (.slice Ay ny cy) xsb 12) st.out bx (Firm2.and Firm2.yes (Firm2.lw _ _ _)) tx
        have hSt := hide st2
        refine hK.out _ _ st2.1 (fun hHeld => ?_)
        clear hK K st2
        (try simp only [Act.put, List.setIfInBounds_toArray, List.set_cons_zero, List.set_cons_succ])
        exact Hs210.out _ _ ⟨Ax, nx, cx, Ay, ny, cy, g0, rfl, hSt.out⟩
      refine AllReadyH.cons rfl (fun K hK => ?_) ?_
      · go_simp
        have st2 := Sg.make st.out (Firm2.and Firm2.yes (Firm2.lw _ _ _)) 1 _ rfl (by simp)
        refine hK.out _ _ st2.1 (fun hHeld => ?_)
        (try simp only [Act.put, List.setIfInBounds_toArray, List.set_cons_zero, List.set_cons_succ])
        exact Hs111.out _ _ ⟨Ax, nx, cx, g0, W.heap.size, rfl, st2⟩
      exact AllReadyH.nil
    refine wpAnyH_with 4 #[true, true, true, false, false, true, false, false] (fun a W => ∃ (Ax : Option Addr) (nx cx : Nat) (g1 : Nat), a = ⟨#[zv sa (.slice Aa na ca), zv sb (.slice Ab nb cb), .pointer (some ⟨w.heap.size, 0, none⟩), .pointer (some ⟨w.heap.size + 1, 0, none⟩), .bool false, undef, .pointer (some ⟨g1, 0, none⟩), undef, undef, undef, undef, undef, undef, .bool true, .bool false, zv sa (.slice Aa na ca), zv sb (.slice Ab nb cb), .bool false, zv sa (.slice Aa na ca), zv sa (.slice Ax nx cx), zv sb (.slice Ab nb cb), undef, undef, undef, undef, undef, undef, undef, undef, undef, undef, undef, undef, undef, undef, undef, undef, undef, undef, undef, undef, undef, undef, undef, undef, undef, undef, undef, undef, undef, undef, undef, undef, undef, undef, undef, undef, undef, undef, undef, undef, undef, undef, undef, undef, undef, undef, undef, undef, undef, undef, undef, undef, undef, undef, undef, undef, undef, undef, undef, undef, undef, undef, undef, undef, undef, undef, undef, undef, undef, undef, undef, undef, undef, undef, undef, undef, undef, undef, undef, undef, undef, undef, undef, undef, undef, undef, undef, undef, undef, undef, undef, undef, undef, undef, undef, undef, undef], []⟩ ∧ Sg w2.drew.heap.size w2.drew W [zblk, zblk] [none, some g1] (fun W => (True ∧ Lw W (.slice Ax nx cx) xsa 12))) ?_ (fun Hs101 => ?_)
    · rintro a W ⟨Ax, nx, cx, g1, rfl, st0⟩
      have hHeld := st0.1
      have st := hide st0
      clear st0
      refine wpAnyH_ready (rs := [3, 4]) (by kernel_rfl) (by simp) ?_
      refine AllReadyH.cons rfl (fun K hK => ?_) ?_
      · go_simp
        go_at_call 9
        refine Calls.mono (zcopy_l (L := 12) (R.out.2.step st.out.1) (by omega)) ?_
        rintro e wx ⟨v9, rfl, tx, bx⟩
        obtain ⟨Ay, ny, cy, rfl⟩ := tx.nw.slice
        try dsimp only
        have st2 := Sg.call (G := fun W => Lw W (.slice Ay ny cy) xsb 12) st.out bx (Firm2.and Firm2.yes (Firm2.lw _ _ _)) tx
        have hSt := hide st2
        refine hK.out _ _ st2.1 (fun hHeld => ?_)
        clear hK K st2
        (try simp only [Act.put, List.setIfInBounds_toArray, List.set_cons_zero, List.set_cons_succ])
        exact Hs201.out _ _ ⟨Ax, nx, cx, Ay, ny, cy, g1, rfl, hSt.out⟩
      refine AllReadyH.cons rfl (fun K hK => ?_) ?_
      · go_simp
        have st2 := Sg.make st.out (Firm2.and Firm2.yes (Firm2.lw _ _ _)) 0 _ rfl (by simp)
        refine hK.out _ _ st2.1 (fun hHeld => ?_)
        (try simp only [Act.put, List.setIfInBounds_toArray, List.set_cons_zero, List.set_cons_succ])
        exact Hs111.out _ _ ⟨Ax, nx, cx, W.heap.size, g1, rfl, st2⟩
      exact AllReadyH.nil
    refine wpAnyH_with 5 #[true, true, true, false, false, false, false, false] (fun a W => ∃ (Ax : Option Addr) (nx cx : Nat), a = ⟨#[zv sa (.slice Aa na ca), zv sb (.slice Ab nb cb), .pointer (some ⟨w.heap.size, 0, none⟩), .pointer (some ⟨w.heap.size + 1, 0, none⟩), .bool false, undef, undef, undef, undef, undef, undef, undef, undef, .bool true, .bool false, zv sa (.slice Aa na ca), zv sb (.slice Ab nb cb), .bool false, zv sa (.slice Aa na ca), zv sa (.slice Ax nx cx), zv sb (.slice Ab nb cb), undef, undef, undef, undef, undef, undef, undef, undef, undef, undef, undef, undef, undef, undef, undef, undef, undef, undef, undef, undef, undef, undef, undef, undef, undef, undef, undef, undef, undef, undef, undef, undef, undef, undef, undef, undef, undef, undef, undef, undef, undef, undef, undef, undef, undef, undef, undef, undef, undef, undef, undef, undef, undef, undef, undef, undef, undef, undef, undef, undef, undef, undef, undef, undef, undef, undef, undef, undef, undef, undef, undef, undef, undef, undef, undef, undef, undef, undef, undef, undef, undef, undef, undef, undef, undef, undef, undef, undef, undef, undef, undef, undef, undef, undef, undef, undef, undef], []⟩ ∧ Sg w2.drew.heap.size w2.drew W [zblk, zblk] [none, none] (fun W => (True ∧ Lw W (.slice Ax nx cx) xsa 12))) ?_ (fun Hs100 => ?_)
    · rintro a W ⟨Ax, nx, cx, rfl, st0⟩
      have hHeld := st0.1
      have st := hide st0
      clear st0
      refine wpAnyH_ready (rs := [3, 4, 5]) (by kernel_rfl) (by simp) ?_
      refine AllReadyH.cons rfl (fun K hK => ?_) ?_
      · go_simp
        go_at_call 9
        refine Calls.mono (zcopy_l (L := 12) (R.out.2.step st.out.1) (by omega)) ?_
        rintro e wx ⟨v9, rfl, tx, bx⟩
        obtain ⟨Ay, ny, cy, rfl⟩ := tx.nw.slice
        try dsimp only
        have st2 := Sg.call (G := fun W => Lw W (.slice Ay ny cy) xsb 12) st.out bx (Firm2.and Firm2.yes (Firm2.lw _ _ _)) tx
        have hSt := hide st2
        refine hK.out _ _ st2.1 (fun hHeld => ?_)
        clear hK K st2
        (try simp only [Act.put, List.setIfInBounds_toArray, List.set_cons_zero, List.set_cons_succ])
        exact Hs200.out _ _ ⟨Ax, nx, cx, Ay, ny, cy, rfl, hSt.out⟩
      refine AllReadyH.cons rfl (fun K hK => ?_) ?_
      · go_simp
        have st2 := Sg.make st.out (Firm2.and Firm2.yes (Firm2.lw _ _ _)) 0 _ rfl (by simp)
        refine hK.out _ _ st2.1 (fun hHeld => ?_)
        (try simp only [Act.put, List.setIfInBounds_toArray, List.set_cons_zero, List.set_cons_succ])
        exact Hs110.out _ _ ⟨Ax, nx, cx, W.heap.size, rfl, st2⟩
      refine AllReadyH.cons rfl (fun K hK => ?_) ?_
      · go_simp
        have st2 := Sg.make st.out (Firm2.and Firm2.yes (Firm2.lw _ _ _)) 1 _ rfl (by simp)
        refine hK.out _ _ st2.1 (fun hHeld => ?_)
        (try simp only [Act.put, List.setIfInBounds_toArray, List.set_cons_zero, List.set_cons_succ])
        exact Hs101.out _ _ ⟨Ax, nx, cx, W.heap.size, rfl, st2⟩
      exact AllReadyH.nil
    refine wpAnyH_with 4 #[true, false, true, false, true, true, false, false] (fun a W => ∃ (g0 : Nat) (g1 : Nat), a = ⟨#[zv sa (.slice Aa na ca), zv sb (.slice Ab nb cb), .pointer (some ⟨w.heap.size, 0, none⟩), .pointer (some ⟨w.heap.size + 1, 0, none⟩), .bool false, .pointer (some ⟨g0, 0, none⟩), .pointer (some ⟨g1, 0, none⟩), undef, undef, undef, undef, undef, undef, .bool true, .bool false, zv sa (.slice Aa na ca), zv sb (.slice Ab nb cb), .bool false, zv sa (.slice Aa na ca), undef, zv sb (.slice Ab nb cb), undef, undef, undef, undef, undef, undef, undef, undef, undef, undef, undef, undef, undef, undef, undef, undef, undef, undef, undef, undef, undef, undef, undef, undef, undef, undef, undef, undef, undef, undef, undef, undef, undef, undef, undef, undef, undef, undef, undef, undef, undef, undef, undef, undef, undef, undef, undef, undef, undef, undef, undef, undef, undef, undef, undef, undef, undef, undef, undef, undef, undef, undef, undef, undef, undef, undef, undef, undef, undef, undef, undef, undef, undef, undef, undef, undef, undef, undef, undef, undef, undef, undef, undef, undef, undef, undef, undef, undef, undef, undef, undef, undef, undef, undef, undef, undef, undef], []⟩ ∧ Sg w2.drew.heap.size w2.drew W [zblk, zblk] [some g0, some g1] (fun W => True)) ?_ (fun Hs011 => ?_)
    · rintro a W ⟨g0, g1, rfl, st0⟩
      have hHeld := st0.1
      have st := hide st0
      clear st0
      refine wpAnyH_ready (rs := [1]) (by kernel_rfl) (by simp) ?_
      refine AllReadyH.cons rfl (fun K hK => ?_) ?_
      · go_simp
        go_at_call 9
        refine Calls.mono (zcopy_l (L := 12) (R.out.1.step st.out.1) (by omega)) ?_
        rintro e wx ⟨v9, rfl, tx, bx⟩
        obtain ⟨Ax, nx, cx, rfl⟩ := tx.nw.slice
        try dsimp only
        have st2 := Sg.call (G := fun W => Lw W (.slice Ax nx cx) xsa 12) st.out bx Firm2.yes tx
        have hSt := hide st2
        refine hK.out _ _ st2.1 (fun hHeld => ?_)
        clear hK K st2
        (try simp only [Act.put, List.setIfInBounds_toArray, List.set_cons_zero, List.set_cons_succ])
        exact Hs111.out _ _ ⟨Ax, nx, cx, g0, g1, rfl, hSt.out⟩
      exact AllReadyH.nil
    refine wpAnyH_with 5 #[true, false, true, false, true, false, false, false] (fun a W => ∃ (g0 : Nat), a = ⟨#[zv sa (.slice Aa na ca), zv sb (.slice Ab nb cb), .pointer (some ⟨w.heap.size, 0, none⟩), .pointer (some ⟨w.heap.size + 1, 0, none⟩), .bool false, .pointer (some ⟨g0, 0, none⟩), undef, undef, undef, undef, undef, undef, undef, .bool true, .bool false, zv sa (.slice Aa na ca), zv sb (.slice Ab nb cb), .bool false, zv sa (.slice Aa na ca), undef, zv sb (.slice Ab nb cb), undef, undef, undef, undef, undef, undef, undef, undef, undef, undef, undef, undef, undef, undef, undef, undef, undef, undef, undef, undef, undef, undef, undef, undef, undef, undef, undef, undef, undef, undef, undef, undef, undef, undef, undef, undef, undef, undef, undef, undef, undef, undef, undef, undef, undef, undef, undef, undef, undef, undef, undef, undef, undef, undef, undef, undef, undef, undef, undef, undef, undef, undef, undef, undef, undef, undef, undef, undef, undef, undef, undef, undef, undef, undef, undef, undef, undef, undef, undef, undef, undef, undef, undef, undef, undef, undef, undef, undef, undef, undef, undef, undef, undef, undef, undef, undef, undef], []⟩ ∧ Sg w2.drew.heap.size w2.drew W [zblk, zblk] [some g0, none] (fun W => True)) ?_ (fun Hs010 => ?_)
    · rintro a W ⟨g0, rfl, st0⟩
      have hHeld := st0.1
      have st := hide st0
      clear st0
      refine wpAnyH_ready (rs := [1, 5]) (by kernel_rfl) (by simp) ?_
      refine AllReadyH.cons rfl (fun K hK => ?_) ?_
      · go_simp
        go_at_call 9
        refine Calls.mono (zcopy_l (L := 12) (R.out.1.step st.out.1) (by omega)) ?_
        rintro e wx ⟨v9, rfl, tx, bx⟩
        obtain ⟨Ax, nx, cx, rfl⟩ := tx.nw.slice
        try dsimp only
        have st2 := Sg.call (G := fun W => Lw W (.slice Ax nx cx) xsa 12) st.out bx Firm2.yes tx
        have hSt := hide st2
        refine hK.out _ _ st2.1 (fun hHeld => ?_)
        clear hK K st2
        (try simp only [Act.put, List.setIfInBounds_toArray, List.set_cons_zero, List.set_cons_succ])
        exact Hs110.out _ _ ⟨Ax, nx, cx, g0, rfl, hSt.out⟩
      refine AllReadyH.cons rfl (fun K hK => ?_) ?_
      · go_simp
        have st2 := Sg.make st.out Firm2.yes 1 _ rfl (by simp)
        refine hK.out _ _ st2.1 (fun hHeld => ?_)
        (try simp only [Act.put, List.setIfInBounds_toArray, List.set_cons_zero, List.set_cons_succ])
        exact Hs011.out _ _ ⟨g0, W.heap.size, rfl, st2⟩
      exact AllReadyH.nil
    refine wpAnyH_with 5 #[true, false, true, false, false, true, false, false] (fun a W => ∃ (g1 : Nat), a = ⟨#[zv sa (.slice Aa na ca), zv sb (.slice Ab nb cb), .pointer (some ⟨w.heap.size, 0, none⟩), .pointer (some ⟨w.heap.size + 1, 0, none⟩), .bool false, undef, .pointer (some ⟨g1, 0, none⟩), undef, undef, undef, undef, undef, undef, .bool true, .bool false, zv sa (.slice Aa na ca), zv sb (.slice Ab nb cb), .bool false, zv sa (.slice Aa na ca), undef, zv sb (.slice Ab nb cb), undef, undef, undef, undef, undef, undef, undef, undef, undef, undef, undef, undef, undef, undef, undef, undef, undef, undef, undef, undef, undef, undef, undef, undef, undef, undef, undef, undef, undef, undef, undef, undef, undef, undef, undef, undef, undef, undef, undef, undef, undef, undef, undef, undef, undef, undef, undef, undef, undef, undef, undef, undef, undef, undef, undef, undef, undef, undef, undef, undef, undef, undef, undef, undef, undef, undef, undef, undef, undef, undef, undef, undef, undef, undef, undef, undef, undef, undef, undef, undef, undef, undef, undef, undef, undef, undef, undef, undef, undef, undef, undef, undef, undef, undef, undef, undef, undef], []⟩ ∧ Sg w2.drew.heap.size w2.drew W [zblk, zblk] [none, some g1] (fun W => True)) ?_ (fun Hs001 => ?_)
    · rintro a W ⟨g1, rfl, st0⟩
      have hHeld := st0.1
      have st := hide st0
      clear st0
      refine wpAnyH_ready (rs := [1, 4]) (by kernel_rfl) (by simp) ?_
      refine AllReadyH.cons rfl (fun K hK => ?_) ?_
      · go_simp
        go_at_call 9
        refine Calls.mono (zcopy_l (L := 12) (R.out.1.step st.out.1) (by omega)) ?_
        rintro e wx ⟨v9, rfl, tx, bx⟩
        obtain ⟨Ax, nx, cx, rfl⟩ := tx.nw.slice
        try dsimp only
        have st2 := Sg.call (G := fun W => Lw W (.slice Ax nx cx) xsa 12) st.out bx Firm2.yes tx
        have hSt := hide st2
        refine hK.out _ _ st2.1 (fun hHeld => ?_)
        clear hK K st2
        (try simp only [Act.put, List.setIfInBounds_toArray, List.set_cons_zero, List.set_cons_succ])
        exact Hs101.out _ _ ⟨Ax, nx, cx, g1, rfl, hSt.out⟩
      refine AllReadyH.cons rfl (fun K hK => ?_) ?_
      · go_simp
        have st2 := Sg.make st.out Firm2.yes 0 _ rfl (by simp)
        refine hK.out _ _ st2.1 (fun hHeld => ?_)
        (try simp only [Act.put, List.setIfInBounds_toArray, List.set_cons_zero, List.set_cons_succ])
        exact Hs011.out _ _ ⟨W.heap.size, g1, rfl, st2⟩
      exact AllReadyH.nil
    refine wpAnyH_take (i := 0) (v := ?_) rfl (by kernel_rfl) (by kernel_rfl) (by kernel_rfl) (fun _ _ _ h => h) (Or.inl ⟨?_, ?_⟩) (by assumption) ?_
    rotate_left
    · rfl
    · (intro w hSw; have e0 := cell_keep P.out.1.1 hSw; have e1 := cell_keep P.out.1.2 hSw; go_simp; try with_reducible rfl)
    (try simp only [Act.put, List.setIfInBounds_toArray, List.set_cons_zero, List.set_cons_succ])
    refine wpAnyH_take (i := 2) (v := ?_) rfl (by kernel_rfl) (by kernel_rfl) (by kernel_rfl) (fun _ _ _ h => h) (Or.inl ⟨?_, ?_⟩) (by assumption) ?_
    rotate_left
    · rfl
    · (intro w hSw; have e0 := cell_keep P.out.2.1 hSw; have e1 := cell_keep P.out.2.2 hSw; go_simp; try with_reducible rfl)
    (try simp only [Act.put, List.setIfInBounds_toArray, List.set_cons_zero, List.set_cons_succ])
    refine wpAnyH_with 6 #[true, false, true, false, false, false, false, false] (fun a W => a = ⟨#[zv sa (.slice Aa na ca), zv sb (.slice Ab nb cb), .pointer (some ⟨w.heap.size, 0, none⟩), .pointer (some ⟨w.heap.size + 1, 0, none⟩), .bool false, undef, undef, undef, undef, undef, undef, undef, undef, .bool true, .bool false, zv sa (.slice Aa na ca), zv sb (.slice Ab nb cb), .bool false, zv sa (.slice Aa na ca), undef, zv sb (.slice Ab nb cb), undef, undef, undef, undef, undef, undef, undef, undef, undef, undef, undef, undef, undef, undef, undef, undef, undef, undef, undef, undef, undef, undef, undef, undef, undef, undef, undef, undef, undef, undef, undef, undef, undef, undef, undef, undef, undef, undef, undef, undef, undef, undef, undef, undef, undef, undef, undef, undef, undef, undef, undef, undef, undef, undef, undef, undef, undef, undef, undef, undef, undef, undef, undef, undef, undef, undef, undef, undef, undef, undef, undef, undef, undef, undef, undef, undef, undef, undef, undef, undef, undef, undef, undef, undef, undef, undef, undef, undef, undef, undef, undef, undef, undef, undef, undef, undef, undef], []⟩ ∧ Sg w2.drew.heap.size w2.drew W [zblk, zblk] [none, none] (fun W => True)) ?_ (fun Hs => Hs.out _ _ ⟨rfl, Sg.start _ _ 2⟩)
    rintro a W ⟨rfl, st0⟩
    have hHeld := st0.1
    have st := hide st0
    clear st0
    refine wpAnyH_ready (rs := [1, 4, 5]) (by kernel_rfl) (by simp) ?_
    refine AllReadyH.cons rfl (fun K hK => ?_) ?_
    · go_simp
      go_at_call 9
      refine Calls.mono (zcopy_l (L := 12) (R.out.1.step st.out.1) (by omega)) ?_
      rintro e wx ⟨v9, rfl, tx, bx⟩
      obtain ⟨Ax, nx, cx, rfl⟩ := tx.nw.slice
      try dsimp only
      have st2 := Sg.call (G := fun W => Lw W (.slice Ax nx cx) xsa 12) st.out bx Firm2.yes tx
      have hSt := hide st2
      refine hK.out _ _ st2.1 (fun hHeld => ?_)
      clear hK K st2
      (try simp only [Act.put, List.setIfInBounds_toArray, List.set_cons_zero, List.set_cons_succ])
      exact Hs100.out _ _ ⟨Ax, nx, cx, rfl, hSt.out⟩
    refine AllReadyH.cons rfl (fun K hK => ?_) ?_
    · go_simp
      have st2 := Sg.make st.out Firm2.yes 0 _ rfl (by simp)
      refine hK.out _ _ st2.1 (fun hHeld => ?_)
      (try simp only [Act.put, List.setIfInBounds_toArray, List.set_cons_zero, List.set_cons_succ])
      exact Hs010.out _ _ ⟨W.heap.size, rfl, st2⟩
    refine AllReadyH.cons rfl (fun K hK => ?_) ?_
    · go_simp
      have st2 := Sg.make st.out Firm2.yes 1 _ rfl (by simp)
      refine hK.out _ _ st2.1 (fun hHeld => ?_)
      (try simp only [Act.put, List.setIfInBounds_toArray, List.set_cons_zero, List.set_cons_succ])
      exact Hs001.out _ _ ⟨W.heap.size, rfl, st2⟩
    exact AllReadyH.nil
end Go.Proofs.YtpcchagnbkohnaaGreatDoor
