/-
  The walk of ZintFloors: true.
-/
import Derived.Test.YtgkaijhblgbnhaaDoorZgreat
import Derived.Test.YtgkaijhblgbnhaaDoorZown
import Derived.Test.YtgkaijhblgbnhaaDoorZrefG
import Derived.Test.YtgkaijhblgbnhaaDoorSpeakZ
import Derived.Test.YtgkaijhblgbnhaaDoorBundleD


namespace Go.Proofs.YtgkaijhblgbnhaaDoor
open Go.RowKit Go.Proofs.YtgkaijhblgbnhaaDoor.Num
set_option linter.unusedVariables false
set_option linter.unusedSimpArgs false
set_option maxRecDepth 100000

theorem Lw.bset {w : World} {v : Value} {xs : List Nat} {L g : Nat} (h : Lw w v xs L) (hz : Bn w g) (j : Nat) (u : Value) : Lw (w.setCell ⟨g, j, none⟩ u) v xs L := by
  obtain ⟨A, n, c, e, h1, h2⟩ := h
  exact ⟨A, n, c, e, by rw [World.size_setCell]; exact h1.bset hz j u, h2⟩
theorem Firm2.lw (v : Value) (xs : List Nat) (L : Nat) : Firm2 (fun W => Lw W v xs L) := ⟨fun _ _ h hb => h.step hb, fun _ _ j u h hn => h.bset hn j u⟩
theorem Nw.openZ {w : World} {A : Option Addr} {n c x L : Nat} (h : Nw w (.slice A n c) x L) : ∃ xs, vl Q xs = x ∧ (n ≤ 12 → Lw w (.slice A n c) xs 12) := by
  obtain ⟨xs, hx, A', n', c', e, h1, h2, h3, h4, h5⟩ := h.lw
  injection e with e1 e2 e3
  subst e1; subst e2; subst e3
  exact ⟨xs, hx, fun hn => ⟨A, n, c, rfl, h1, h2, h3, h4, hn⟩⟩
theorem Zi.parts {w : World} {v : Value} {z : Int} {L : Nat} (h : Zi w v z L) : ∃ s A n c, v = zv s (.slice A n c) ∧ Zi w (zv s (.slice A n c)) z L := by
  obtain ⟨u, rfl, hc⟩ := h
  obtain ⟨A, c, rfl, h⟩ := hc
  exact ⟨_, A, _, c, rfl, _, rfl, A, c, rfl, h⟩
theorem Own.slice {w : World} {B : Nat} {u : Value} {xs : List Nat} (h : Own .u64 58 w B u xs) : ∃ A n c, u = .slice A n c := by
  obtain ⟨A, c, e, -⟩ := h.form
  exact ⟨A, _, c, e⟩
theorem Bx.grown {w w' : World} {g : Nat} {s : Bool} {A : Option Addr} {n c : Nat} {row : Option Nat} (h : Bx w g s A n c) (hg : w.grownBy w' row) (hlt : g < w.heap.size) (hne : row ≠ some g) : Bx w' g s A n c := by
  have e := hg.block g hlt (fun e => hne e.symm)
  exact ⟨(World.cell?_of_block (w := w) (w' := w') e).trans h.1, (World.cell?_of_block (w := w) (w' := w') e).trans h.2⟩
theorem qboxT (w : World) (s : Bool) (A : Option Addr) (n c : Nat) :
    Below w.heap.size w (w.alloc (.cells #[.bool s, .slice A n c] 33)) ∧ Bx (w.alloc (.cells #[.bool s, .slice A n c] 33)) w.heap.size s A n c := by
  refine ⟨(Below.refl _ _).alloc (Nat.le_refl _) _, ⟨?_, ?_⟩⟩ <;> go_simp
theorem zsame_nil (w : World) : Calls Tryd.prog 13 #[zv false (.slice none 0 0), zv false (.slice none 0 0)] w fun e w' => e = .returned (.bool true) ∧ Below w.heap.size w w' := zsame_i (zi_nil w) (zi_nil w)

theorem cell_lt {W : World} {g j : Nat} {v : Value} (h : W.cell? ⟨g, j, none⟩ = some v) : g < W.heap.size := by
  unfold World.cell? at h
  split at h
  · rename_i hb
    exact (Array.getElem?_eq_some_iff.1 hb).1
  · cases h
theorem own_neb {u v : Value} (h : ∀ g, u.ownBlock = some g → v.ownBlock ≠ some g) : v.ownBlock = none ∨ v.ownBlock ≠ u.ownBlock := by
  cases hv : v.ownBlock with
  | none => exact .inl rfl
  | some g => exact .inr (fun e => h g e.symm hv)

set_option maxHeartbeats 16000000 in
theorem zfloors_true (w : World) (sa : Bool) (ua : Value) (sb : Bool) (ub : Value) (xa xb : Nat) (hua : Nw w ua xa 17592186043904) (hub : Nw w ub xb 17592186043904) :
    Calls Tryd.prog 3 #[zv sa ua, zv sb ub] w fun e w' => e = .returned (.bool true) ∧ Below w.heap.size w w' := by
  obtain ⟨Aa, na, ca, rfl⟩ := hua.slice
  obtain ⟨Ab, nb, cb, rfl⟩ := hub.slice
  obtain ⟨xsa, hxa, hla⟩ := hua.openZ
  obtain ⟨xsb, hxb, hlb⟩ := hub.openZ
  obtain ⟨b2, y1, y2⟩ := box2 w sa sb Aa Ab na ca nb cb
  have P := hide (And.intro y1 y2)
  have B := hide b2
  have HL : Hid (¬ (12 < na ∨ 12 < nb) → Lw ((w.alloc (zbox sa (.slice Aa na ca))).alloc (zbox sb (.slice Ab nb cb))) (.slice Aa na ca) xsa 12 ∧ Lw ((w.alloc (zbox sa (.slice Aa na ca))).alloc (zbox sb (.slice Ab nb cb))) (.slice Ab nb cb) xsb 12) := hide (fun h => ⟨(hla (by omega)).step b2, (hlb (by omega)).step b2⟩)
  obtain ⟨ai, ha⟩ : ∃ ai, zi sa xa = ai := ⟨_, rfl⟩
  obtain ⟨bi, hb⟩ : ∃ bi, zi sb xb = bi := ⟨_, rfl⟩
  have HA : Hid (∀ W A n c, Lw W (.slice A n c) xsa 12 → Za W (zv sa (.slice A n c)) ai 12) := hide (fun W A n c h => h.za hxa ha)
  have HBB : Hid (∀ W A n c, Lw W (.slice A n c) xsb 12 → Za W (zv sb (.slice A n c)) bi 12) := hide (fun W A n c h => h.za hxb hb)
  clear hua hub hla hlb y1 y2 b2 hxa hxb ha hb
  by_cases hg : 12 < na ∨ 12 < nb
  · have HG := hide hg
    clear hg HL
    go_enter Tryd.func3, Tryd.ntmps3
    go_wp2_with fail
    refine (zspeaks_true _).mono ?_
    rintro e w1 ⟨rfl, bx⟩
    replace P := hide (And.intro (P.out.1.step bx) (P.out.2.step bx))
    replace B := hide (Below.step B.out B.out.size bx)
    clear bx
    obtain ⟨⟨p0, p1⟩, q0, q1⟩ := P.out
    go_wp2_with fail
    refine (zgreat_yes sa sb Aa Ab na ca nb cb _ HG.out).mono ?_
    rintro e w2 ⟨rfl, bx0⟩
    have bx := Below.step1 bx0 (Below.drew (Below.refl w2.heap.size w2))
    replace B := hide (Below.step B.out B.out.size bx0)
    clear bx bx0
    clear p0 p1 q0 q1
    go_wp2_with fail
    go_ret
    exact ⟨rfl, B.out⟩
  · have HG := hide (show na ≤ 12 ∧ nb ≤ 12 by omega)
    have R := hide (HL.out hg)
    clear hg HL
    by_cases hb0 : bi = 0
    · have HB := hide hb0
      clear hb0
      go_enter Tryd.func3, Tryd.ntmps3
      go_wp2_with fail
      refine (zspeaks_true _).mono ?_
      rintro e w1 ⟨rfl, bx⟩
      replace P := hide (And.intro (P.out.1.step bx) (P.out.2.step bx))
      replace B := hide (Below.step B.out B.out.size bx)
      replace R := hide (And.intro (R.out.1.step bx) (R.out.2.step bx))
      clear bx
      obtain ⟨⟨p0, p1⟩, q0, q1⟩ := P.out
      go_wp2_with fail
      refine (zgreat_no sa sb Aa Ab na ca nb cb _ HG.out.1 HG.out.2).mono ?_
      rintro e w2 ⟨rfl, bx0⟩
      have bx := Below.step1 bx0 (Below.drew (Below.refl w2.heap.size w2))
      replace P := hide (And.intro (P.out.1.step bx) (P.out.2.step bx))
      replace R := hide (And.intro (R.out.1.step bx) (R.out.2.step bx))
      replace B := hide (Below.step B.out B.out.size bx)
      clear bx bx0
      clear p0 p1 q0 q1
      go_wp2_with fail
      refine wp_region_held_drew (S := fun W => Below w2.drew.heap.size w2.drew W) (by kernel_rfl) (Below.refl _ _) (fun hHeld => ?_)
      refine wpAnyH_with 2 #[true, true, true, true, true, true, false, false] (fun a W => ∃ (Ax : Option Addr) (nx cx : Nat) (Ay : Option Addr) (ny cy : Nat) (g0 : Nat) (g1 : Nat), a = ⟨#[zv sa (.slice Aa na ca), zv sb (.slice Ab nb cb), .pointer (some ⟨w.heap.size, 0, none⟩), .pointer (some ⟨w.heap.size + 1, 0, none⟩), .bool false, .pointer (some ⟨g0, 0, none⟩), .pointer (some ⟨g1, 0, none⟩), undef, undef, undef, undef, undef, undef, undef, .bool true, .bool false, zv sa (.slice Aa na ca), zv sb (.slice Ab nb cb), .bool false, zv sa (.slice Aa na ca), zv sa (.slice Ax nx cx), zv sb (.slice Ab nb cb), zv sb (.slice Ay ny cy), undef, undef, undef, undef, undef, undef, undef, undef, undef, undef, undef, undef, undef, undef, undef, undef, undef, undef, undef, undef, undef, undef, undef, undef, undef, undef, undef, undef, undef, undef, undef, undef, undef, undef, undef, undef, undef, undef, undef, undef, undef, undef, undef, undef, undef, undef, undef, undef, undef, undef, undef, undef, undef, undef, undef, undef, undef, undef, undef, undef], []⟩ ∧ Sg w2.drew.heap.size w2.drew W [zblk, zblk] [some g0, some g1] (fun W => ((True ∧ Lw W (.slice Ax nx cx) xsa 12) ∧ Lw W (.slice Ay ny cy) xsb 12))) ?_ (fun Hs211 => ?_)
      · rintro a W ⟨Ax, nx, cx, Ay, ny, cy, g0, g1, rfl, st0⟩
        have hHeld := st0.1
        have st := hide st0
        clear st0
        obtain ⟨k0, f0⟩ := Sg.cells st.out 0 g0 #[.bool false, .slice none 0 0] 24 rfl rfl 0
        obtain ⟨k1, f1⟩ := Sg.cells st.out 0 g0 #[.bool false, .slice none 0 0] 24 rfl rfl 1
        simp only [List.getElem?_toArray, List.getElem?_cons_zero, List.getElem?_cons_succ] at k0
        simp only [List.getElem?_toArray, List.getElem?_cons_zero, List.getElem?_cons_succ] at k1
        have st9 := st.out
        have st9 := Sg.put st9 (Firm2.and (Firm2.and Firm2.yes (Firm2.lw _ _ _)) (Firm2.lw _ _ _)) 0 g0 0 _ 24 (.bool sa) rfl rfl rfl
        have st9 := Sg.put st9 (Firm2.and (Firm2.and Firm2.yes (Firm2.lw _ _ _)) (Firm2.lw _ _ _)) 0 g0 1 _ 24 (.slice Ax nx cx) rfl rfl rfl
        have st8 := hide st9
        clear st9
        refine wpAnyH_ready (rs := [6]) (by kernel_rfl) (by simp) ?_
        refine AllReadyH.cons rfl (fun K hK => ?_) ?_
        rotate_left
        · exact AllReadyH.nil
        go_simp
        refine hK.out _ _ st8.out.1 (fun hHeld => ?_)
        clear hK K k0 f0 k1 f1 st
        (try simp only [Act.put, List.setIfInBounds_toArray, List.set_cons_zero, List.set_cons_succ])
        generalize ((W.setCell ⟨g0, 0, none⟩ _).setCell ⟨g0, 1, none⟩ _) = W5 at *
        have st := st8
        clear st8
        obtain ⟨k0, f0⟩ := Sg.cells st.out 1 g1 #[.bool false, .slice none 0 0] 24 rfl rfl 0
        obtain ⟨k1, f1⟩ := Sg.cells st.out 1 g1 #[.bool false, .slice none 0 0] 24 rfl rfl 1
        simp only [List.getElem?_toArray, List.getElem?_cons_zero, List.getElem?_cons_succ] at k0
        simp only [List.getElem?_toArray, List.getElem?_cons_zero, List.getElem?_cons_succ] at k1
        have st9 := st.out
        have st9 := Sg.put st9 (Firm2.and (Firm2.and Firm2.yes (Firm2.lw _ _ _)) (Firm2.lw _ _ _)) 1 g1 0 _ 24 (.bool sb) rfl rfl rfl
        have st9 := Sg.put st9 (Firm2.and (Firm2.and Firm2.yes (Firm2.lw _ _ _)) (Firm2.lw _ _ _)) 1 g1 1 _ 24 (.slice Ay ny cy) rfl rfl rfl
        have st8 := hide st9
        clear st9
        refine wpAnyH_ready (rs := [7]) (by kernel_rfl) (by simp) ?_
        refine AllReadyH.cons rfl (fun K hK => ?_) ?_
        rotate_left
        · exact AllReadyH.nil
        go_simp
        refine hK.out _ _ st8.out.1 (fun hHeld => ?_)
        clear hK K k0 f0 k1 f1 st
        (try simp only [Act.put, List.setIfInBounds_toArray, List.set_cons_zero, List.set_cons_succ])
        generalize ((W5.setCell ⟨g1, 0, none⟩ _).setCell ⟨g1, 1, none⟩ _) = W6 at *
        have st := st8
        clear st8
        refine wpAnyH_done (by kernel_rfl) ?_ _
        clear hHeld
        have s9 := st.out
        have P := hide (And.intro (P.out.1.step s9.1) (And.intro (P.out.2.step s9.1) (And.intro (show Bx W6 g0 sa Ax nx cx from ⟨(Sg.cells s9 0 g0 _ _ rfl rfl 0).1, (Sg.cells s9 0 g0 _ _ rfl rfl 1).1⟩) (show Bx W6 g1 sb Ay ny cy from ⟨(Sg.cells s9 1 g1 _ _ rfl rfl 0).1, (Sg.cells s9 1 g1 _ _ rfl rfl 1).1⟩))))
        have R := hide (And.intro (R.out.1.step s9.1) (And.intro (R.out.2.step s9.1) (And.intro s9.2.2.1.1.2 s9.2.2.1.2)))
        have B := hide (Below.step B.out B.out.size s9.1)
        clear s9 st
        generalize W6 = M at *
        have PM := P
        have RM := R
        have BM := B
        obtain ⟨-, -, ⟨p0, p1⟩, q0, q1⟩ := P.out
        go_wp2_with fail
        refine (zdiv_zero (L := 12) (M := 12) (HA.out _ _ _ _ R.out.2.2.1) (by rw [← HB.out]; exact HBB.out _ _ _ _ R.out.2.2.2) (by omega)).mono ?_
        rintro e w4 ⟨rfl, b0⟩
        obtain ⟨x, y1, y2⟩ := box2 w4 false false none none 0 0 0 0
        have bx := Below.step1 b0 x
        have P := hide (And.intro (P.out.1.step bx) (And.intro (P.out.2.1.step bx) (And.intro (P.out.2.2.1.step bx) (And.intro (P.out.2.2.2.step bx) (And.intro y1 y2)))))
        replace R := hide ((And.intro (R.out.1.step bx) (And.intro (R.out.2.1.step bx) (And.intro (R.out.2.2.1.step bx) (R.out.2.2.2.step bx)))))
        have BB := hide bx
        have B := hide (Below.step B.out B.out.size bx)
        clear p0 p1 q0 q1 bx b0 x y1 y2
        obtain ⟨-, ⟨q0, q1⟩, -⟩ := P.out
        go_wp2_with fail
        generalize ((w4.alloc (.cells #[.bool false, .slice none 0 0] 24)).alloc (.cells #[.bool false, .slice none 0 0] 24)) = w5 at *
        generalize hg7 : w4.heap.size = g7 at *
        refine (qof_any (L := 12) (HBB.out _ _ _ _ R.out.2.1) (by omega)).mono ?_
        rintro e w6 ⟨v6, rfl, h6, b0⟩
        obtain ⟨so, xo, Ao, no, co, rfl, -, -, -⟩ := id h6.parts
        obtain ⟨x, y⟩ := qboxT w6 so Ao no co
        have bx := Below.step1 b0 x
        have P := hide (And.intro (P.out.1.step bx) (And.intro (P.out.2.1.step bx) (And.intro (P.out.2.2.1.step bx) (And.intro (P.out.2.2.2.1.step bx) (And.intro (P.out.2.2.2.2.1.step bx) (And.intro (P.out.2.2.2.2.2.step bx) y))))))
        replace R := hide ((And.intro (R.out.1.step bx) (And.intro (R.out.2.1.step bx) (And.intro (R.out.2.2.1.step bx) (R.out.2.2.2.step bx)))))
        replace BB := hide (Below.step1 BB.out bx)
        have B := hide (Below.step B.out B.out.size bx)
        have QO := hide (h6.step x)
        have SG := hide (qsign_any (h6.step x))
        clear q0 q1 bx b0 x y h6
        obtain ⟨-, -, -, -, -, -, q0, q1⟩ := P.out
        go_wp2_with fail
        generalize (w6.alloc (.cells #[.bool so, .slice Ao no co] 33)) = w7 at *
        generalize w6.heap.size = gq at *
        rw [HB.out, show zsg 0 = 0 from rfl] at SG
        refine SG.out.mono ?_
        rintro e w8 ⟨rfl, bx⟩
        have P := hide (And.intro (P.out.2.2.2.2.1.step bx) (P.out.2.2.2.2.2.1.step bx))
        replace B := hide (Below.step B.out B.out.size bx)
        clear q0 q1 SG bx
        obtain ⟨⟨p0, p1⟩, q0, q1⟩ := P.out
        go_wp2_with fail
        refine (zsame_nil _).mono ?_
        rintro e w9 ⟨rfl, bx⟩
        have P := hide (P.out.2.step bx)
        replace B := hide (Below.step B.out B.out.size bx)
        clear bx p0 p1 q0 q1
        obtain ⟨q0, q1⟩ := P.out
        go_wp2_with fail
        refine (zsame_nil _).mono ?_
        rintro e w10 ⟨rfl, bx⟩
        replace B := hide (Below.step B.out B.out.size bx)
        clear bx q0 q1
        go_wp2_with fail
        go_ret
        exact ⟨rfl, B.out⟩
      refine wpAnyH_with 3 #[true, true, true, true, true, false, false, false] (fun a W => ∃ (Ax : Option Addr) (nx cx : Nat) (Ay : Option Addr) (ny cy : Nat) (g0 : Nat), a = ⟨#[zv sa (.slice Aa na ca), zv sb (.slice Ab nb cb), .pointer (some ⟨w.heap.size, 0, none⟩), .pointer (some ⟨w.heap.size + 1, 0, none⟩), .bool false, .pointer (some ⟨g0, 0, none⟩), undef, undef, undef, undef, undef, undef, undef, undef, .bool true, .bool false, zv sa (.slice Aa na ca), zv sb (.slice Ab nb cb), .bool false, zv sa (.slice Aa na ca), zv sa (.slice Ax nx cx), zv sb (.slice Ab nb cb), zv sb (.slice Ay ny cy), undef, undef, undef, undef, undef, undef, undef, undef, undef, undef, undef, undef, undef, undef, undef, undef, undef, undef, undef, undef, undef, undef, undef, undef, undef, undef, undef, undef, undef, undef, undef, undef, undef, undef, undef, undef, undef, undef, undef, undef, undef, undef, undef, undef, undef, undef, undef, undef, undef, undef, undef, undef, undef, undef, undef, undef, undef, undef, undef, undef], []⟩ ∧ Sg w2.drew.heap.size w2.drew W [zblk, zblk] [some g0, none] (fun W => ((True ∧ Lw W (.slice Ax nx cx) xsa 12) ∧ Lw W (.slice Ay ny cy) xsb 12))) ?_ (fun Hs210 => ?_)
      · rintro a W ⟨Ax, nx, cx, Ay, ny, cy, g0, rfl, st0⟩
        have hHeld := st0.1
        have st := hide st0
        clear st0
        refine wpAnyH_ready (rs := [5]) (by kernel_rfl) (by simp) ?_
        refine AllReadyH.cons rfl (fun K hK => ?_) ?_
        · go_simp
          have st2 := Sg.make st.out (Firm2.and (Firm2.and Firm2.yes (Firm2.lw _ _ _)) (Firm2.lw _ _ _)) 1 _ rfl (by simp)
          refine hK.out _ _ st2.1 (fun hHeld => ?_)
          (try simp only [Act.put, List.setIfInBounds_toArray, List.set_cons_zero, List.set_cons_succ])
          exact Hs211.out _ _ ⟨Ax, nx, cx, Ay, ny, cy, g0, W.heap.size, rfl, st2⟩
        exact AllReadyH.nil
      refine wpAnyH_with 3 #[true, true, true, true, false, true, false, false] (fun a W => ∃ (Ax : Option Addr) (nx cx : Nat) (Ay : Option Addr) (ny cy : Nat) (g1 : Nat), a = ⟨#[zv sa (.slice Aa na ca), zv sb (.slice Ab nb cb), .pointer (some ⟨w.heap.size, 0, none⟩), .pointer (some ⟨w.heap.size + 1, 0, none⟩), .bool false, undef, .pointer (some ⟨g1, 0, none⟩), undef, undef, undef, undef, undef, undef, undef, .bool true, .bool false, zv sa (.slice Aa na ca), zv sb (.slice Ab nb cb), .bool false, zv sa (.slice Aa na ca), zv sa (.slice Ax nx cx), zv sb (.slice Ab nb cb), zv sb (.slice Ay ny cy), undef, undef, undef, undef, undef, undef, undef, undef, undef, undef, undef, undef, undef, undef, undef, undef, undef, undef, undef, undef, undef, undef, undef, undef, undef, undef, undef, undef, undef, undef, undef, undef, undef, undef, undef, undef, undef, undef, undef, undef, undef, undef, undef, undef, undef, undef, undef, undef, undef, undef, undef, undef, undef, undef, undef, undef, undef, undef, undef, undef], []⟩ ∧ Sg w2.drew.heap.size w2.drew W [zblk, zblk] [none, some g1] (fun W => ((True ∧ Lw W (.slice Ax nx cx) xsa 12) ∧ Lw W (.slice Ay ny cy) xsb 12))) ?_ (fun Hs201 => ?_)
      · rintro a W ⟨Ax, nx, cx, Ay, ny, cy, g1, rfl, st0⟩
        have hHeld := st0.1
        have st := hide st0
        clear st0
        refine wpAnyH_ready (rs := [4]) (by kernel_rfl) (by simp) ?_
        refine AllReadyH.cons rfl (fun K hK => ?_) ?_
        · go_simp
          have st2 := Sg.make st.out (Firm2.and (Firm2.and Firm2.yes (Firm2.lw _ _ _)) (Firm2.lw _ _ _)) 0 _ rfl (by simp)
          refine hK.out _ _ st2.1 (fun hHeld => ?_)
          (try simp only [Act.put, List.setIfInBounds_toArray, List.set_cons_zero, List.set_cons_succ])
          exact Hs211.out _ _ ⟨Ax, nx, cx, Ay, ny, cy, W.heap.size, g1, rfl, st2⟩
        exact AllReadyH.nil
      refine wpAnyH_with 4 #[true, true, true, true, false, false, false, false] (fun a W => ∃ (Ax : Option Addr) (nx cx : Nat) (Ay : Option Addr) (ny cy : Nat), a = ⟨#[zv sa (.slice Aa na ca), zv sb (.slice Ab nb cb), .pointer (some ⟨w.heap.size, 0, none⟩), .pointer (some ⟨w.heap.size + 1, 0, none⟩), .bool false, undef, undef, undef, undef, undef, undef, undef, undef, undef, .bool true, .bool false, zv sa (.slice Aa na ca), zv sb (.slice Ab nb cb), .bool false, zv sa (.slice Aa na ca), zv sa (.slice Ax nx cx), zv sb (.slice Ab nb cb), zv sb (.slice Ay ny cy), undef, undef, undef, undef, undef, undef, undef, undef, undef, undef, undef, undef, undef, undef, undef, undef, undef, undef, undef, undef, undef, undef, undef, undef, undef, undef, undef, undef, undef, undef, undef, undef, undef, undef, undef, undef, undef, undef, undef, undef, undef, undef, undef, undef, undef, undef, undef, undef, undef, undef, undef, undef, undef, undef, undef, undef, undef, undef, undef, undef], []⟩ ∧ Sg w2.drew.heap.size w2.drew W [zblk, zblk] [none, none] (fun W => ((True ∧ Lw W (.slice Ax nx cx) xsa 12) ∧ Lw W (.slice Ay ny cy) xsb 12))) ?_ (fun Hs200 => ?_)
      · rintro a W ⟨Ax, nx, cx, Ay, ny, cy, rfl, st0⟩
        have hHeld := st0.1
        have st := hide st0
        clear st0
        refine wpAnyH_ready (rs := [4, 5]) (by kernel_rfl) (by simp) ?_
        refine AllReadyH.cons rfl (fun K hK => ?_) ?_
        · go_simp
          have st2 := Sg.make st.out (Firm2.and (Firm2.and Firm2.yes (Firm2.lw _ _ _)) (Firm2.lw _ _ _)) 0 _ rfl (by simp)
          refine hK.out _ _ st2.1 (fun hHeld => ?_)
          (try simp only [Act.put, List.setIfInBounds_toArray, List.set_cons_zero, List.set_cons_succ])
          exact Hs210.out _ _ ⟨Ax, nx, cx, Ay, ny, cy, W.heap.size, rfl, st2⟩
        refine AllReadyH.cons rfl (fun K hK => ?_) ?_
        · go_simp
          have st2 := Sg.make st.out (Firm2.and (Firm2.and Firm2.yes (Firm2.lw _ _ _)) (Firm2.lw _ _ _)) 1 _ rfl (by simp)
          refine hK.out _ _ st2.1 (fun hHeld => ?_)
          (try simp only [Act.put, List.setIfInBounds_toArray, List.set_cons_zero, List.set_cons_succ])
          exact Hs201.out _ _ ⟨Ax, nx, cx, Ay, ny, cy, W.heap.size, rfl, st2⟩
        exact AllReadyH.nil
      refine wpAnyH_with 3 #[true, true, true, false, true, true, false, false] (fun a W => ∃ (Ax : Option Addr) (nx cx : Nat) (g0 : Nat) (g1 : Nat), a = ⟨#[zv sa (.slice Aa na ca), zv sb (.slice Ab nb cb), .pointer (some ⟨w.heap.size, 0, none⟩), .pointer (some ⟨w.heap.size + 1, 0, none⟩), .bool false, .pointer (some ⟨g0, 0, none⟩), .pointer (some ⟨g1, 0, none⟩), undef, undef, undef, undef, undef, undef, undef, .bool true, .bool false, zv sa (.slice Aa na ca), zv sb (.slice Ab nb cb), .bool false, zv sa (.slice Aa na ca), zv sa (.slice Ax nx cx), zv sb (.slice Ab nb cb), undef, undef, undef, undef, undef, undef, undef, undef, undef, undef, undef, undef, undef, undef, undef, undef, undef, undef, undef, undef, undef, undef, undef, undef, undef, undef, undef, undef, undef, undef, undef, undef, undef, undef, undef, undef, undef, undef, undef, undef, undef, undef, undef, undef, undef, undef, undef, undef, undef, undef, undef, undef, undef, undef, undef, undef, undef, undef, undef, undef, undef], []⟩ ∧ Sg w2.drew.heap.size w2.drew W [zblk, zblk] [some g0, some g1] (fun W => (True ∧ Lw W (.slice Ax nx cx) xsa 12))) ?_ (fun Hs111 => ?_)
      · rintro a W ⟨Ax, nx, cx, g0, g1, rfl, st0⟩
        have hHeld := st0.1
        have st := hide st0
        clear st0
        refine wpAnyH_ready (rs := [3]) (by kernel_rfl) (by simp) ?_
        refine AllReadyH.cons rfl (fun K hK => ?_) ?_
        · go_simp
          go_at_call 9
          refine Calls.mono (zcopy_l (L := 12) (R.out.2.step st.out.1) (by omega)) ?_
          rintro e wx ⟨v9, rfl, tx, bx⟩
          obtain ⟨Ay, ny, cy, rfl⟩ := tx.nw.slice
          try dsimp only
          have st2 := Sg.call (G := fun W => Lw W (.slice Ay ny cy) xsb 12) st.out bx (Firm2.and Firm2.yes (Firm2.lw _ _ _)) tx
          have hSt := hide st2
          refine hK.out _ _ st2.1 (fun hHeld => ?_)
          clear hK K st2
          (try simp only [Act.put, List.setIfInBounds_toArray, List.set_cons_zero, List.set_cons_succ])
          exact Hs211.out _ _ ⟨Ax, nx, cx, Ay, ny, cy, g0, g1, rfl, hSt.out⟩
        exact AllReadyH.nil
      refine wpAnyH_with 4 #[true, true, true, false, true, false, false, false] (fun a W => ∃ (Ax : Option Addr) (nx cx : Nat) (g0 : Nat), a = ⟨#[zv sa (.slice Aa na ca), zv sb (.slice Ab nb cb), .pointer (some ⟨w.heap.size, 0, none⟩), .pointer (some ⟨w.heap.size + 1, 0, none⟩), .bool false, .pointer (some ⟨g0, 0, none⟩), undef, undef, undef, undef, undef, undef, undef, undef, .bool true, .bool false, zv sa (.slice Aa na ca), zv sb (.slice Ab nb cb), .bool false, zv sa (.slice Aa na ca), zv sa (.slice Ax nx cx), zv sb (.slice Ab nb cb), undef, undef, undef, undef, undef, undef, undef, undef, undef, undef, undef, undef, undef, undef, undef, undef, undef, undef, undef, undef, undef, undef, undef, undef, undef, undef, undef, undef, undef, undef, undef, undef, undef, undef, undef, undef, undef, undef, undef, undef, undef, undef, undef, undef, undef, undef, undef, undef, undef, undef, undef, undef, undef, undef, undef, undef, undef, undef, undef, undef, undef], []⟩ ∧ Sg w2.drew.heap.size w2.drew W [zblk, zblk] [some g0, none] (fun W => (True ∧ Lw W (.slice Ax nx cx) xsa 12))) ?_ (fun Hs110 => ?_)
      · rintro a W ⟨Ax, nx, cx, g0, rfl, st0⟩
        have hHeld := st0.1
        have st := hide st0
        clear st0
        refine wpAnyH_ready (rs := [3, 5]) (by kernel_rfl) (by simp) ?_
        refine AllReadyH.cons rfl (fun K hK => ?_) ?_
        · go_simp
          go_at_call 9
          refine Calls.mono (zcopy_l (L := 12) (R.out.2.step st.out.1) (by omega)) ?_
          rintro e wx ⟨v9, rfl, tx, bx⟩
          obtain ⟨Ay, ny, cy, rfl⟩ := tx.nw.slice
          try dsimp only
          have st2 := Sg.call (G := fun W => Lw W (.slice Ay ny cy) xsb 12) st.out bx (Firm2.and Firm2.yes (Firm2.lw _ _ _)) tx
          have hSt := hide st2
          refine hK.out _ _ st2.1 (fun hHeld => ?_)
          clear hK K st2
          (try simp only [Act.put, List.setIfInBounds_toArray, List.set_cons_zero, List.set_cons_succ])
          exact Hs210.out _ _ ⟨Ax, nx, cx, Ay, ny, cy, g0, rfl, hSt.out⟩
        refine AllReadyH.cons rfl (fun K hK => ?_) ?_
        · go_simp
          have st2 := Sg.make st.out (Firm2.and Firm2.yes (Firm2.lw _ _ _)) 1 _ rfl (by simp)
          refine hK.out _ _ st2.1 (fun hHeld => ?_)
          (try simp only [Act.put, List.setIfInBounds_toArray, List.set_cons_zero, List.set_cons_succ])
          exact Hs111.out _ _ ⟨Ax, nx, cx, g0, W.heap.size, rfl, st2⟩
        exact AllReadyH.nil
      refine wpAnyH_with 4 #[true, true, true, false, false, true, false, false] (fun a W => ∃ (Ax : Option Addr) (nx cx : Nat) (g1 : Nat), a = ⟨#[zv sa (.slice Aa na ca), zv sb (.slice Ab nb cb), .pointer (some ⟨w.heap.size, 0, none⟩), .pointer (some ⟨w.heap.size + 1, 0, none⟩), .bool false, undef, .pointer (some ⟨g1, 0, none⟩), undef, undef, undef, undef, undef, undef, undef, .bool true, .bool false, zv sa (.slice Aa na ca), zv sb (.slice Ab nb cb), .bool false, zv sa (.slice Aa na ca), zv sa (.slice Ax nx cx), zv sb (.slice Ab nb cb), undef, undef, undef, undef, undef, undef, undef, undef, undef, undef, undef, undef, undef, undef, undef, undef, undef, undef, undef, undef, undef, undef, undef, undef, undef, undef, undef, undef, undef, undef, undef, undef, undef, undef, undef, undef, undef, undef, undef, undef, undef, undef, undef, undef, undef, undef, undef, undef, undef, undef, undef, undef, undef, undef, undef, undef, undef, undef, undef, undef, undef], []⟩ ∧ Sg w2.drew.heap.size w2.drew W [zblk, zblk] [none, some g1] (fun W => (True ∧ Lw W (.slice Ax nx cx) xsa 12))) ?_ (fun Hs101 => ?_)
      · rintro a W ⟨Ax, nx, cx, g1, rfl, st0⟩
        have hHeld := st0.1
        have st := hide st0
        clear st0
        refine wpAnyH_ready (rs := [3, 4]) (by kernel_rfl) (by simp) ?_
        refine AllReadyH.cons rfl (fun K hK => ?_) ?_
        · go_simp
          go_at_call 9
          refine Calls.mono (zcopy_l (L := 12) (R.out.2.step st.out.1) (by omega)) ?_
          rintro e wx ⟨v9, rfl, tx, bx⟩
          obtain ⟨Ay, ny, cy, rfl⟩ := tx.nw.slice
          try dsimp only
          have st2 := Sg.call (G := fun W => Lw W (.slice Ay ny cy) xsb 12) st.out bx (Firm2.and Firm2.yes (Firm2.lw _ _ _)) tx
          have hSt := hide st2
          refine hK.out _ _ st2.1 (fun hHeld => ?_)
          clear hK K st2
          (try simp only [Act.put, List.setIfInBounds_toArray, List.set_cons_zero, List.set_cons_succ])
          exact Hs201.out _ _ ⟨Ax, nx, cx, Ay, ny, cy, g1, rfl, hSt.out⟩
        refine AllReadyH.cons rfl (fun K hK => ?_) ?_
        · go_simp
          have st2 := Sg.make st.out (Firm2.and Firm2.yes (Firm2.lw _ _ _)) 0 _ rfl (by simp)
          refine hK.out _ _ st2.1 (fun hHeld => ?_)
          (try simp only [Act.put, List.setIfInBounds_toArray, List.set_cons_zero, List.set_cons_succ])
          exact Hs111.out _ _ ⟨Ax, nx, cx, W.heap.size, g1, rfl, st2⟩
        exact AllReadyH.nil
      refine wpAnyH_with 5 #[true, true, true, false, false, false, false, false] (fun a W => ∃ (Ax : Option Addr) (nx cx : Nat), a = ⟨#[zv sa (.slice Aa na ca), zv sb (.slice Ab nb cb), .pointer (some ⟨w.heap.size, 0, none⟩), .pointer (some ⟨w.heap.size + 1, 0, none⟩), .bool false, undef, undef, undef, undef, undef, undef, undef, undef, undef, .bool true, .bool false, zv sa (.slice Aa na ca), zv sb (.slice Ab nb cb), .bool false, zv sa (.slice Aa na ca), zv sa (.slice Ax nx cx), zv sb (.slice Ab nb cb), undef, undef, undef, undef, undef, undef, undef, undef, undef, undef, undef, undef, undef, undef, undef, undef, undef, undef, undef, undef, undef, undef, undef, undef, undef, undef, undef, undef, undef, undef, undef, undef, undef, undef, undef, undef, undef, undef, undef, undef, undef, undef, undef, undef, undef, undef, undef, undef, undef, undef, undef, undef, undef, undef, undef, undef, undef, undef, undef, undef, undef], []⟩ ∧ Sg w2.drew.heap.size w2.drew W [zblk, zblk] [none, none] (fun W => (True ∧ Lw W (.slice Ax nx cx) xsa 12))) ?_ (fun Hs100 => ?_)
      · rintro a W ⟨Ax, nx, cx, rfl, st0⟩
        have hHeld := st0.1
        have st := hide st0
        clear st0
        refine wpAnyH_ready (rs := [3, 4, 5]) (by kernel_rfl) (by simp) ?_
        refine AllReadyH.cons rfl (fun K hK => ?_) ?_
        · go_simp
          go_at_call 9
          refine Calls.mono (zcopy_l (L := 12) (R.out.2.step st.out.1) (by omega)) ?_
          rintro e wx ⟨v9, rfl, tx, bx⟩
          obtain ⟨Ay, ny, cy, rfl⟩ := tx.nw.slice
          try dsimp only
          have st2 := Sg.call (G := fun W => Lw W (.slice Ay ny cy) xsb 12) st.out bx (Firm2.and Firm2.yes (Firm2.lw _ _ _)) tx
          have hSt := hide st2
          refine hK.out _ _ st2.1 (fun hHeld => ?_)
          clear hK K st2
          (try simp only [Act.put, List.setIfInBounds_toArray, List.set_cons_zero, List.set_cons_succ])
          exact Hs200.out _ _ ⟨Ax, nx, cx, Ay, ny, cy, rfl, hSt.out⟩
        refine AllReadyH.cons rfl (fun K hK => ?_) ?_
        · go_simp
          have st2 := Sg.make st.out (Firm2.and Firm2.yes (Firm2.lw _ _ _)) 0 _ rfl (by simp)
          refine hK.out _ _ st2.1 (fun hHeld => ?_)
          (try simp only [Act.put, List.setIfInBounds_toArray, List.set_cons_zero, List.set_cons_succ])
          exact Hs110.out _ _ ⟨Ax, nx, cx, W.heap.size, rfl, st2⟩
        refine AllReadyH.cons rfl (fun K hK => ?_) ?_
        · go_simp
          have st2 := Sg.make st.out (Firm2.and Firm2.yes (Firm2.lw _ _ _)) 1 _ rfl (by simp)
          refine hK.out _ _ st2.1 (fun hHeld => ?_)
          (try simp only [Act.put, List.setIfInBounds_toArray, List.set_cons_zero, List.set_cons_succ])
          exact Hs101.out _ _ ⟨Ax, nx, cx, W.heap.size, rfl, st2⟩
        exact AllReadyH.nil
      refine wpAnyH_with 4 #[true, false, true, false, true, true, false, false] (fun a W => ∃ (g0 : Nat) (g1 : Nat), a = ⟨#[zv sa (.slice Aa na ca), zv sb (.slice Ab nb cb), .pointer (some ⟨w.heap.size, 0, none⟩), .pointer (some ⟨w.heap.size + 1, 0, none⟩), .bool false, .pointer (some ⟨g0, 0, none⟩), .pointer (some ⟨g1, 0, none⟩), undef, undef, undef, undef, undef, undef, undef, .bool true, .bool false, zv sa (.slice Aa na ca), zv sb (.slice Ab nb cb), .bool false, zv sa (.slice Aa na ca), undef, zv sb (.slice Ab nb cb), undef, undef, undef, undef, undef, undef, undef, undef, undef, undef, undef, undef, undef, undef, undef, undef, undef, undef, undef, undef, undef, undef, undef, undef, undef, undef, undef, undef, undef, undef, undef, undef, undef, undef, undef, undef, undef, undef, undef, undef, undef, undef, undef, undef, undef, undef, undef, undef, undef, undef, undef, undef, undef, undef, undef, undef, undef, undef, undef, undef, undef], []⟩ ∧ Sg w2.drew.heap.size w2.drew W [zblk, zblk] [some g0, some g1] (fun W => True)) ?_ (fun Hs011 => ?_)
      · rintro a W ⟨g0, g1, rfl, st0⟩
        have hHeld := st0.1
        have st := hide st0
        clear st0
        refine wpAnyH_ready (rs := [1]) (by kernel_rfl) (by simp) ?_
        refine AllReadyH.cons rfl (fun K hK => ?_) ?_
        · go_simp
          go_at_call 9
          refine Calls.mono (zcopy_l (L := 12) (R.out.1.step st.out.1) (by omega)) ?_
          rintro e wx ⟨v9, rfl, tx, bx⟩
          obtain ⟨Ax, nx, cx, rfl⟩ := tx.nw.slice
          try dsimp only
          have st2 := Sg.call (G := fun W => Lw W (.slice Ax nx cx) xsa 12) st.out bx Firm2.yes tx
          have hSt := hide st2
          refine hK.out _ _ st2.1 (fun hHeld => ?_)
          clear hK K st2
          (try simp only [Act.put, List.setIfInBounds_toArray, List.set_cons_zero, List.set_cons_succ])
          exact Hs111.out _ _ ⟨Ax, nx, cx, g0, g1, rfl, hSt.out⟩
        exact AllReadyH.nil
      refine wpAnyH_with 5 #[true, false, true, false, true, false, false, false] (fun a W => ∃ (g0 : Nat), a = ⟨#[zv sa (.slice Aa na ca), zv sb (.slice Ab nb cb), .pointer (some ⟨w.heap.size, 0, none⟩), .pointer (some ⟨w.heap.size + 1, 0, none⟩), .bool false, .pointer (some ⟨g0, 0, none⟩), undef, undef, undef, undef, undef, undef, undef, undef, .bool true, .bool false, zv sa (.slice Aa na ca), zv sb (.slice Ab nb cb), .bool false, zv sa (.slice Aa na ca), undef, zv sb (.slice Ab nb cb), undef, undef, undef, undef, undef, undef, undef, undef, undef, undef, undef, undef, undef, undef, undef, undef, undef, undef, undef, undef, undef, undef, undef, undef, undef, undef, undef, undef, undef, undef, undef, undef, undef, undef, undef, undef, undef, undef, undef, undef, undef, undef, undef, undef, undef, undef, undef, undef, undef, undef, undef, undef, undef, undef, undef, undef, undef, undef, undef, undef, undef], []⟩ ∧ Sg w2.drew.heap.size w2.drew W [zblk, zblk] [some g0, none] (fun W => True)) ?_ (fun Hs010 => ?_)
      · rintro a W ⟨g0, rfl, st0⟩
        have hHeld := st0.1
        have st := hide st0
        clear st0
        refine wpAnyH_ready (rs := [1, 5]) (by kernel_rfl) (by simp) ?_
        refine AllReadyH.cons rfl (fun K hK => ?_) ?_
        · go_simp
          go_at_call 9
          refine Calls.mono (zcopy_l (L := 12) (R.out.1.step st.out.1) (by omega)) ?_
          rintro e wx ⟨v9, rfl, tx, bx⟩
          obtain ⟨Ax, nx, cx, rfl⟩ := tx.nw.slice
          try dsimp only
          have st2 := Sg.call (G := fun W => Lw W (.slice Ax nx cx) xsa 12) st.out bx Firm2.yes tx
          have hSt := hide st2
          refine hK.out _ _ st2.1 (fun hHeld => ?_)
          clear hK K st2
          (try simp only [Act.put, List.setIfInBounds_toArray, List.set_cons_zero, List.set_cons_succ])
          exact Hs110.out _ _ ⟨Ax, nx, cx, g0, rfl, hSt.out⟩
        refine AllReadyH.cons rfl (fun K hK => ?_) ?_
        · go_simp
          have st2 := Sg.make st.out Firm2.yes 1 _ rfl (by simp)
          refine hK.out _ _ st2.1 (fun hHeld => ?_)
          (try simp only [Act.put, List.setIfInBounds_toArray, List.set_cons_zero, List.set_cons_succ])
          exact Hs011.out _ _ ⟨g0, W.heap.size, rfl, st2⟩
        exact AllReadyH.nil
      refine wpAnyH_with 5 #[true, false, true, false, false, true, false, false] (fun a W => ∃ (g1 : Nat), a = ⟨#[zv sa (.slice Aa na ca), zv sb (.slice Ab nb cb), .pointer (some ⟨w.heap.size, 0, none⟩), .pointer (some ⟨w.heap.size + 1, 0, none⟩), .bool false, undef, .pointer (some ⟨g1, 0, none⟩), undef, undef, undef, undef, undef, undef, undef, .bool true, .bool false, zv sa (.slice Aa na ca), zv sb (.slice Ab nb cb), .bool false, zv sa (.slice Aa na ca), undef, zv sb (.slice Ab nb cb), undef, undef, undef, undef, undef, undef, undef, undef, undef, undef, undef, undef, undef, undef, undef, undef, undef, undef, undef, undef, undef, undef, undef, undef, undef, undef, undef, undef, undef, undef, undef, undef, undef, undef, undef, undef, undef, undef, undef, undef, undef, undef, undef, undef, undef, undef, undef, undef, undef, undef, undef, undef, undef, undef, undef, undef, undef, undef, undef, undef, undef], []⟩ ∧ Sg w2.drew.heap.size w2.drew W [zblk, zblk] [none, some g1] (fun W => True)) ?_ (fun Hs001 => ?_)
      · rintro a W ⟨g1, rfl, st0⟩
        have hHeld := st0.1
        have st := hide st0
        clear st0
        refine wpAnyH_ready (rs := [1, 4]) (by kernel_rfl) (by simp) ?_
        refine AllReadyH.cons rfl (fun K hK => ?_) ?_
        · go_simp
          go_at_call 9
          refine Calls.mono (zcopy_l (L := 12) (R.out.1.step st.out.1) (by omega)) ?_
          rintro e wx ⟨v9, rfl, tx, bx⟩
          obtain ⟨Ax, nx, cx, rfl⟩ := tx.nw.slice
          try dsimp only
          have st2 := Sg.call (G := fun W => Lw W (.slice Ax nx cx) xsa 12) st.out bx Firm2.yes tx
          have hSt := hide st2
          refine hK.out _ _ st2.1 (fun hHeld => ?_)
          clear hK K st2
          (try simp only [Act.put, List.setIfInBounds_toArray, List.set_cons_zero, List.set_cons_succ])
          exact Hs101.out _ _ ⟨Ax, nx, cx, g1, rfl, hSt.out⟩
        refine AllReadyH.cons rfl (fun K hK => ?_) ?_
        · go_simp
          have st2 := Sg.make st.out Firm2.yes 0 _ rfl (by simp)
          refine hK.out _ _ st2.1 (fun hHeld => ?_)
          (try simp only [Act.put, List.setIfInBounds_toArray, List.set_cons_zero, List.set_cons_succ])
          exact Hs011.out _ _ ⟨W.heap.size, g1, rfl, st2⟩
        exact AllReadyH.nil
      refine wpAnyH_take (i := 0) (v := ?_) rfl (by kernel_rfl) (by kernel_rfl) (by kernel_rfl) (fun _ _ _ h => h) (Or.inl ⟨?_, ?_⟩) (by assumption) ?_
      rotate_left
      · rfl
      · (intro w hSw; have e0 := cell_keep P.out.1.1 hSw; have e1 := cell_keep P.out.1.2 hSw; go_simp; try with_reducible rfl)
      (try simp only [Act.put, List.setIfInBounds_toArray, List.set_cons_zero, List.set_cons_succ])
      refine wpAnyH_take (i := 2) (v := ?_) rfl (by kernel_rfl) (by kernel_rfl) (by kernel_rfl) (fun _ _ _ h => h) (Or.inl ⟨?_, ?_⟩) (by assumption) ?_
      rotate_left
      · rfl
      · (intro w hSw; have e0 := cell_keep P.out.2.1 hSw; have e1 := cell_keep P.out.2.2 hSw; go_simp; try with_reducible rfl)
      (try simp only [Act.put, List.setIfInBounds_toArray, List.set_cons_zero, List.set_cons_succ])
      refine wpAnyH_with 6 #[true, false, true, false, false, false, false, false] (fun a W => a = ⟨#[zv sa (.slice Aa na ca), zv sb (.slice Ab nb cb), .pointer (some ⟨w.heap.size, 0, none⟩), .pointer (some ⟨w.heap.size + 1, 0, none⟩), .bool false, undef, undef, undef, undef, undef, undef, undef, undef, undef, .bool true, .bool false, zv sa (.slice Aa na ca), zv sb (.slice Ab nb cb), .bool false, zv sa (.slice Aa na ca), undef, zv sb (.slice Ab nb cb), undef, undef, undef, undef, undef, undef, undef, undef, undef, undef, undef, undef, undef, undef, undef, undef, undef, undef, undef, undef, undef, undef, undef, undef, undef, undef, undef, undef, undef, undef, undef, undef, undef, undef, undef, undef, undef, undef, undef, undef, undef, undef, undef, undef, undef, undef, undef, undef, undef, undef, undef, undef, undef, undef, undef, undef, undef, undef, undef, undef, undef], []⟩ ∧ Sg w2.drew.heap.size w2.drew W [zblk, zblk] [none, none] (fun W => True)) ?_ (fun Hs => Hs.out _ _ ⟨rfl, Sg.start _ _ 2⟩)
      rintro a W ⟨rfl, st0⟩
      have hHeld := st0.1
      have st := hide st0
      clear st0
      refine wpAnyH_ready (rs := [1, 4, 5]) (by kernel_rfl) (by simp) ?_
      refine AllReadyH.cons rfl (fun K hK => ?_) ?_
      · go_simp
        go_at_call 9
        refine Calls.mono (zcopy_l (L := 12) (R.out.1.step st.out.1) (by omega)) ?_
        rintro e wx ⟨v9, rfl, tx, bx⟩
        obtain ⟨Ax, nx, cx, rfl⟩ := tx.nw.slice
        try dsimp only
        have st2 := Sg.call (G := fun W => Lw W (.slice Ax nx cx) xsa 12) st.out bx Firm2.yes tx
        have hSt := hide st2
        refine hK.out _ _ st2.1 (fun hHeld => ?_)
        clear hK K st2
        (try simp only [Act.put, List.setIfInBounds_toArray, List.set_cons_zero, List.set_cons_succ])
        exact Hs100.out _ _ ⟨Ax, nx, cx, rfl, hSt.out⟩
      refine AllReadyH.cons rfl (fun K hK => ?_) ?_
      · go_simp
        have st2 := Sg.make st.out Firm2.yes 0 _ rfl (by simp)
        refine hK.out _ _ st2.1 (fun hHeld => ?_)
        (try simp only [Act.put, List.setIfInBounds_toArray, List.set_cons_zero, List.set_cons_succ])
        exact Hs010.out _ _ ⟨W.heap.size, rfl, st2⟩
      refine AllReadyH.cons rfl (fun K hK => ?_) ?_
      · go_simp
        have st2 := Sg.make st.out Firm2.yes 1 _ rfl (by simp)
        refine hK.out _ _ st2.1 (fun hHeld => ?_)
        (try simp only [Act.put, List.setIfInBounds_toArray, List.set_cons_zero, List.set_cons_succ])
        exact Hs001.out _ _ ⟨W.heap.size, rfl, st2⟩
      exact AllReadyH.nil
    · have HB := hide hb0
      clear hb0
      go_enter Tryd.func3, Tryd.ntmps3
      go_wp2_with fail
      refine (zspeaks_true _).mono ?_
      rintro e w1 ⟨rfl, bx⟩
      replace P := hide (And.intro (P.out.1.step bx) (P.out.2.step bx))
      replace B := hide (Below.step B.out B.out.size bx)
      replace R := hide (And.intro (R.out.1.step bx) (R.out.2.step bx))
      clear bx
      obtain ⟨⟨p0, p1⟩, q0, q1⟩ := P.out
      go_wp2_with fail
      refine (zgreat_no sa sb Aa Ab na ca nb cb _ HG.out.1 HG.out.2).mono ?_
      rintro e w2 ⟨rfl, bx0⟩
      have bx := Below.step1 bx0 (Below.drew (Below.refl w2.heap.size w2))
      replace P := hide (And.intro (P.out.1.step bx) (P.out.2.step bx))
      replace R := hide (And.intro (R.out.1.step bx) (R.out.2.step bx))
      replace B := hide (Below.step B.out B.out.size bx)
      clear bx bx0
      clear p0 p1 q0 q1
      go_wp2_with fail
      refine wp_region_held_drew (S := fun W => Below w2.drew.heap.size w2.drew W) (by kernel_rfl) (Below.refl _ _) (fun hHeld => ?_)
      refine wpAnyH_with 2 #[true, true, true, true, true, true, false, false] (fun a W => ∃ (Ax : Option Addr) (nx cx : Nat) (Ay : Option Addr) (ny cy : Nat) (g0 : Nat) (g1 : Nat), a = ⟨#[zv sa (.slice Aa na ca), zv sb (.slice Ab nb cb), .pointer (some ⟨w.heap.size, 0, none⟩), .pointer (some ⟨w.heap.size + 1, 0, none⟩), .bool false, .pointer (some ⟨g0, 0, none⟩), .pointer (some ⟨g1, 0, none⟩), undef, undef, undef, undef, undef, undef, undef, .bool true, .bool false, zv sa (.slice Aa na ca), zv sb (.slice Ab nb cb), .bool false, zv sa (.slice Aa na ca), zv sa (.slice Ax nx cx), zv sb (.slice Ab nb cb), zv sb (.slice Ay ny cy), undef, undef, undef, undef, undef, undef, undef, undef, undef, undef, undef, undef, undef, undef, undef, undef, undef, undef, undef, undef, undef, undef, undef, undef, undef, undef, undef, undef, undef, undef, undef, undef, undef, undef, undef, undef, undef, undef, undef, undef, undef, undef, undef, undef, undef, undef, undef, undef, undef, undef, undef, undef, undef, undef, undef, undef, undef, undef, undef, undef], []⟩ ∧ Sg w2.drew.heap.size w2.drew W [zblk, zblk] [some g0, some g1] (fun W => ((True ∧ Lw W (.slice Ax nx cx) xsa 12) ∧ Lw W (.slice Ay ny cy) xsb 12))) ?_ (fun Hs211 => ?_)
      · rintro a W ⟨Ax, nx, cx, Ay, ny, cy, g0, g1, rfl, st0⟩
        have hHeld := st0.1
        have st := hide st0
        clear st0
        obtain ⟨k0, f0⟩ := Sg.cells st.out 0 g0 #[.bool false, .slice none 0 0] 24 rfl rfl 0
        obtain ⟨k1, f1⟩ := Sg.cells st.out 0 g0 #[.bool false, .slice none 0 0] 24 rfl rfl 1
        simp only [List.getElem?_toArray, List.getElem?_cons_zero, List.getElem?_cons_succ] at k0
        simp only [List.getElem?_toArray, List.getElem?_cons_zero, List.getElem?_cons_succ] at k1
        have st9 := st.out
        have st9 := Sg.put st9 (Firm2.and (Firm2.and Firm2.yes (Firm2.lw _ _ _)) (Firm2.lw _ _ _)) 0 g0 0 _ 24 (.bool sa) rfl rfl rfl
        have st9 := Sg.put st9 (Firm2.and (Firm2.and Firm2.yes (Firm2.lw _ _ _)) (Firm2.lw _ _ _)) 0 g0 1 _ 24 (.slice Ax nx cx) rfl rfl rfl
        have st8 := hide st9
        clear st9
        refine wpAnyH_ready (rs := [6]) (by kernel_rfl) (by simp) ?_
        refine AllReadyH.cons rfl (fun K hK => ?_) ?_
        rotate_left
        · exact AllReadyH.nil
        go_simp
        refine hK.out _ _ st8.out.1 (fun hHeld => ?_)
        clear hK K k0 f0 k1 f1 st
        (try simp only [Act.put, List.setIfInBounds_toArray, List.set_cons_zero, List.set_cons_succ])
        generalize ((W.setCell ⟨g0, 0, none⟩ _).setCell ⟨g0, 1, none⟩ _) = W5 at *
        have st := st8
        clear st8
        obtain ⟨k0, f0⟩ := Sg.cells st.out 1 g1 #[.bool false, .slice none 0 0] 24 rfl rfl 0
        obtain ⟨k1, f1⟩ := Sg.cells st.out 1 g1 #[.bool false, .slice none 0 0] 24 rfl rfl 1
        simp only [List.getElem?_toArray, List.getElem?_cons_zero, List.getElem?_cons_succ] at k0
        simp only [List.getElem?_toArray, List.getElem?_cons_zero, List.getElem?_cons_succ] at k1
        have st9 := st.out
        have st9 := Sg.put st9 (Firm2.and (Firm2.and Firm2.yes (Firm2.lw _ _ _)) (Firm2.lw _ _ _)) 1 g1 0 _ 24 (.bool sb) rfl rfl rfl
        have st9 := Sg.put st9 (Firm2.and (Firm2.and Firm2.yes (Firm2.lw _ _ _)) (Firm2.lw _ _ _)) 1 g1 1 _ 24 (.slice Ay ny cy) rfl rfl rfl
        have st8 := hide st9
        clear st9
        refine wpAnyH_ready (rs := [7]) (by kernel_rfl) (by simp) ?_
        refine AllReadyH.cons rfl (fun K hK => ?_) ?_
        rotate_left
        · exact AllReadyH.nil
        go_simp
        refine hK.out _ _ st8.out.1 (fun hHeld => ?_)
        clear hK K k0 f0 k1 f1 st
        (try simp only [Act.put, List.setIfInBounds_toArray, List.set_cons_zero, List.set_cons_succ])
        generalize ((W5.setCell ⟨g1, 0, none⟩ _).setCell ⟨g1, 1, none⟩ _) = W6 at *
        have st := st8
        clear st8
        refine wpAnyH_done (by kernel_rfl) ?_ _
        clear hHeld
        have s9 := st.out
        have P := hide (And.intro (P.out.1.step s9.1) (And.intro (P.out.2.step s9.1) (And.intro (show Bx W6 g0 sa Ax nx cx from ⟨(Sg.cells s9 0 g0 _ _ rfl rfl 0).1, (Sg.cells s9 0 g0 _ _ rfl rfl 1).1⟩) (show Bx W6 g1 sb Ay ny cy from ⟨(Sg.cells s9 1 g1 _ _ rfl rfl 0).1, (Sg.cells s9 1 g1 _ _ rfl rfl 1).1⟩))))
        have R := hide (And.intro (R.out.1.step s9.1) (And.intro (R.out.2.step s9.1) (And.intro s9.2.2.1.1.2 s9.2.2.1.2)))
        have B := hide (Below.step B.out B.out.size s9.1)
        clear s9 st
        generalize W6 = M at *
        have PM := P
        have RM := R
        have BM := B
        obtain ⟨-, -, ⟨p0, p1⟩, q0, q1⟩ := P.out
        go_wp2_with fail
        refine (zdiv_own (L := 12) (M := 12) (K := 12) (HA.out _ _ _ _ R.out.2.2.1) (HBB.out _ _ _ _ R.out.2.2.2) HB.out (by omega) (by omega) (by omega)).mono ?_
        rintro e w4 ⟨s7, u7, s8, u8, rfl, hq, hr, oq, or_, dj, b0⟩
        obtain ⟨A7, n7, c7, rfl⟩ := oq.slice
        obtain ⟨A8, n8, c8, rfl⟩ := or_.slice
        obtain ⟨x, y1, y2⟩ := box2 w4 s7 s8 A7 A8 n7 c7 n8 c8
        have LQ := hide (own_lt oq)
        have LR := hide (own_lt or_)
        have OQ := hide (oq.step x)
        have OR := hide (or_.step x)
        have DJ := hide dj
        have HQ := hide (hq.step x)
        have HR := hide (hr.step x)
        clear oq or_ dj hq hr
        have bx := Below.step1 b0 x
        have P := hide (And.intro (P.out.1.step bx) (And.intro (P.out.2.1.step bx) (And.intro (P.out.2.2.1.step bx) (And.intro (P.out.2.2.2.step bx) (And.intro y1 y2)))))
        replace R := hide ((And.intro (R.out.1.step bx) (And.intro (R.out.2.1.step bx) (And.intro (R.out.2.2.1.step bx) (R.out.2.2.2.step bx)))))
        have BB := hide bx
        have B := hide (Below.step B.out B.out.size bx)
        clear p0 p1 q0 q1 bx b0 x y1 y2
        obtain ⟨-, ⟨q0, q1⟩, -⟩ := P.out
        go_wp2_with fail
        generalize ((w4.alloc (.cells #[.bool s7, .slice A7 n7 c7] 24)).alloc (.cells #[.bool s8, .slice A8 n8 c8] 24)) = w5 at *
        generalize hg7 : w4.heap.size = g7 at *
        refine (qof_any (L := 12) (HBB.out _ _ _ _ R.out.2.1) (by omega)).mono ?_
        rintro e w6 ⟨v6, rfl, h6, b0⟩
        obtain ⟨so, xo, Ao, no, co, rfl, -, -, -⟩ := id h6.parts
        obtain ⟨x, y⟩ := qboxT w6 so Ao no co
        have bx := Below.step1 b0 x
        have P := hide (And.intro (P.out.1.step bx) (And.intro (P.out.2.1.step bx) (And.intro (P.out.2.2.1.step bx) (And.intro (P.out.2.2.2.1.step bx) (And.intro (P.out.2.2.2.2.1.step bx) (And.intro (P.out.2.2.2.2.2.step bx) y))))))
        replace R := hide ((And.intro (R.out.1.step bx) (And.intro (R.out.2.1.step bx) (And.intro (R.out.2.2.1.step bx) (R.out.2.2.2.step bx)))))
        replace BB := hide (Below.step1 BB.out bx)
        have B := hide (Below.step B.out B.out.size bx)
        have QO := hide (h6.step x)
        have SG := hide (qsign_any (h6.step x))
        have OQ := hide (OQ.out.step bx)
        have OR := hide (OR.out.step bx)
        have HQ := hide (HQ.out.step bx)
        have HR := hide (HR.out.step bx)
        clear q0 q1 bx b0 x y h6
        obtain ⟨-, -, -, -, -, -, q0, q1⟩ := P.out
        go_wp2_with fail
        generalize (w6.alloc (.cells #[.bool so, .slice Ao no co] 33)) = w7 at *
        generalize w6.heap.size = gq at *
        have hz : (zsg bi == 0) = false := beq_eq_false_iff_ne.2 (by have := HB.out; unfold zsg; split <;> (try split) <;> omega)
        obtain ⟨oz, hoz⟩ : ∃ oz, Hid (zsg bi = oz) := ⟨_, hide rfl⟩
        rw [hoz.out] at hz SG
        refine SG.out.mono ?_
        rintro e w8 ⟨rfl, bx0⟩
        have bx := Below.step1 bx0 (Below.drew (Below.refl w8.heap.size w8))
        replace P := hide ((And.intro (P.out.1.step bx) (And.intro (P.out.2.1.step bx) (And.intro (P.out.2.2.1.step bx) (And.intro (P.out.2.2.2.1.step bx) (And.intro (P.out.2.2.2.2.1.step bx) (And.intro (P.out.2.2.2.2.2.1.step bx) (P.out.2.2.2.2.2.2.step bx))))))))
        replace R := hide ((And.intro (R.out.1.step bx) (And.intro (R.out.2.1.step bx) (And.intro (R.out.2.2.1.step bx) (R.out.2.2.2.step bx)))))
        replace BB := hide (Below.step1 BB.out bx)
        replace B := hide (Below.step B.out B.out.size bx)
        replace OQ := hide (OQ.out.step bx)
        replace OR := hide (OR.out.step bx)
        replace HQ := hide (HQ.out.step bx)
        replace HR := hide (HR.out.step bx)
        replace QO := hide (QO.out.step bx)
        have HS7 : Hid (∀ W : World, W.cell? ⟨g7 + 1, 0, none⟩ = some (.bool s8) → g7 + 1 < W.heap.size) := hide (fun W h => cell_lt h)
        clear q0 q1 SG bx bx0
        go_wp2_with fail
        refine wp_region_held_drew (S := fun W => Below w8.drew.heap.size w8.drew W) (by kernel_rfl) (Below.refl _ _) (fun hHeld => ?_)
        refine wpAnyH_with 2 #[true, true, true, true, true, true, true, true, true, false, false] (fun a W => ∃ (sp : Bool) (Ap : Option Addr) (np cp : Nat) (su : Bool) (Au : Option Addr) (nu cu : Nat) (sv : Bool) (Av : Option Addr) (nv cv : Nat) (h0 : Nat) (h1 : Nat), a = ⟨#[zv sa (.slice Aa na ca), zv sb (.slice Ab nb cb), .pointer (some ⟨w.heap.size, 0, none⟩), .pointer (some ⟨w.heap.size + 1, 0, none⟩), .bool false, .pointer (some ⟨g0, 0, none⟩), .pointer (some ⟨g1, 0, none⟩), .pointer (some ⟨g7, 0, none⟩), .pointer (some ⟨g7 + 1, 0, none⟩), .int .i64 0, .pointer (some ⟨gq, 0, none⟩), .pointer (some ⟨h0, 0, none⟩), .pointer (some ⟨h1, 0, none⟩), undef, .bool true, .bool false, zv sa (.slice Aa na ca), zv sb (.slice Ab nb cb), .bool false, zv sa (.slice Aa na ca), zv sa (.slice Ax nx cx), zv sb (.slice Ab nb cb), zv sb (.slice Ay ny cy), .tuple #[zv s7 (.slice A7 n7 c7), zv s8 (.slice A8 n8 c8), .int .i64 0], zv sa (.slice Ax nx cx), zv sb (.slice Ay ny cy), .tuple #[zv s7 (.slice A7 n7 c7), zv s8 (.slice A8 n8 c8), .int .i64 0], zv s7 (.slice A7 n7 c7), zv s8 (.slice A8 n8 c8), .int .i64 0, zv sb (.slice Ab nb cb), zv so (.slice Ao no co), zv so (.slice Ao no co), .int .i64 oz, .bool false, undef, undef, undef, undef, undef, undef, undef, undef, undef, undef, undef, undef, .tuple #[zv su (.slice Au nu cu), zv sv (.slice Av nv cv)], zv sa (.slice Aa na ca), zv sp (.slice Ap np cp), zv so (.slice Ao no co), .tuple #[zv su (.slice Au nu cu), zv sv (.slice Av nv cv)], zv su (.slice Au nu cu), zv sv (.slice Av nv cv), undef, undef, undef, undef, undef, undef, undef, undef, undef, undef, undef, undef, undef, undef, undef, undef, undef, undef, undef, undef, undef, undef, undef, undef, undef, undef, undef, undef, undef], []⟩ ∧ Sg w8.drew.heap.size w8.drew W [qblk, qblk] [some h0, some h1] (fun W => ((True ∧ Qi W (zv sp (.slice Ap np cp)) ai (5 * 12)) ∧ (Qi W (zv su (.slice Au nu cu)) (zq ai bi) (5 * 12 + 1) ∧ Qi W (zv sv (.slice Av nv cv)) (zr ai bi) (5 * 12 + 1 + 5 * 12 + 1))))) ?_ (fun Hs211 => ?_)
        · rintro a W ⟨sp, Ap, np, cp, su, Au, nu, cu, sv, Av, nv, cv, h0, h1, rfl, st0⟩
          have hHeld := st0.1
          have st := hide st0
          clear st0
          obtain ⟨k0, f0⟩ := Sg.cells st.out 0 h0 #[.bool false, .slice none 0 0] 33 rfl rfl 0
          obtain ⟨k1, f1⟩ := Sg.cells st.out 0 h0 #[.bool false, .slice none 0 0] 33 rfl rfl 1
          simp only [List.getElem?_toArray, List.getElem?_cons_zero, List.getElem?_cons_succ] at k0
          simp only [List.getElem?_toArray, List.getElem?_cons_zero, List.getElem?_cons_succ] at k1
          have st9 := st.out
          have st9 := Sg.put st9 (Firm2.and (Firm2.and Firm2.yes (Firm2.qi _ _ _)) (Firm2.and (Firm2.qi _ _ _) (Firm2.qi _ _ _))) 0 h0 0 _ 33 (.bool su) rfl rfl rfl
          have st9 := Sg.put st9 (Firm2.and (Firm2.and Firm2.yes (Firm2.qi _ _ _)) (Firm2.and (Firm2.qi _ _ _) (Firm2.qi _ _ _))) 0 h0 1 _ 33 (.slice Au nu cu) rfl rfl rfl
          have st8 := hide st9
          clear st9
          refine wpAnyH_ready (rs := [9]) (by kernel_rfl) (by simp) ?_
          refine AllReadyH.cons rfl (fun K hK => ?_) ?_
          rotate_left
          · exact AllReadyH.nil
          go_simp
          refine hK.out _ _ st8.out.1 (fun hHeld => ?_)
          clear hK K k0 f0 k1 f1 st
          (try simp only [Act.put, List.setIfInBounds_toArray, List.set_cons_zero, List.set_cons_succ])
          generalize ((W.setCell ⟨h0, 0, none⟩ _).setCell ⟨h0, 1, none⟩ _) = W5 at *
          have st := st8
          clear st8
          obtain ⟨k0, f0⟩ := Sg.cells st.out 1 h1 #[.bool false, .slice none 0 0] 33 rfl rfl 0
          obtain ⟨k1, f1⟩ := Sg.cells st.out 1 h1 #[.bool false, .slice none 0 0] 33 rfl rfl 1
          simp only [List.getElem?_toArray, List.getElem?_cons_zero, List.getElem?_cons_succ] at k0
          simp only [List.getElem?_toArray, List.getElem?_cons_zero, List.getElem?_cons_succ] at k1
          have st9 := st.out
          have st9 := Sg.put st9 (Firm2.and (Firm2.and Firm2.yes (Firm2.qi _ _ _)) (Firm2.and (Firm2.qi _ _ _) (Firm2.qi _ _ _))) 1 h1 0 _ 33 (.bool sv) rfl rfl rfl
          have st9 := Sg.put st9 (Firm2.and (Firm2.and Firm2.yes (Firm2.qi _ _ _)) (Firm2.and (Firm2.qi _ _ _) (Firm2.qi _ _ _))) 1 h1 1 _ 33 (.slice Av nv cv) rfl rfl rfl
          have st8 := hide st9
          clear st9
          refine wpAnyH_ready (rs := [10]) (by kernel_rfl) (by simp) ?_
          refine AllReadyH.cons rfl (fun K hK => ?_) ?_
          rotate_left
          · exact AllReadyH.nil
          go_simp
          refine hK.out _ _ st8.out.1 (fun hHeld => ?_)
          clear hK K k0 f0 k1 f1 st
          (try simp only [Act.put, List.setIfInBounds_toArray, List.set_cons_zero, List.set_cons_succ])
          generalize ((W5.setCell ⟨h1, 0, none⟩ _).setCell ⟨h1, 1, none⟩ _) = W6 at *
          have st := st8
          clear st8
          refine wpAnyH_done (by kernel_rfl) ?_ _
          clear hHeld
          have s9 := st.out
          have P := hide (And.intro (P.out.2.2.2.2.1.step s9.1) (And.intro (P.out.2.2.2.2.2.1.step s9.1) (And.intro (show Bx W6 h0 su Au nu cu from ⟨(Sg.cells s9 0 h0 _ _ rfl rfl 0).1, (Sg.cells s9 0 h0 _ _ rfl rfl 1).1⟩) (show Bx W6 h1 sv Av nv cv from ⟨(Sg.cells s9 1 h1 _ _ rfl rfl 0).1, (Sg.cells s9 1 h1 _ _ rfl rfl 1).1⟩))))
          have T := hide (And.intro (HQ.out.step s9.1) (And.intro (HR.out.step s9.1) (And.intro s9.2.2.1.2.1 s9.2.2.1.2.2)))
          have OO := hide (And.intro (OQ.out.step s9.1) (OR.out.step s9.1))
          replace BB := hide (Below.step1 BB.out s9.1)
          have B := hide (Below.step B.out B.out.size s9.1)
          clear s9 st R QO HQ HR OQ OR HA HBB
          generalize W6 = w9 at *
          have bx := Below.drew (Below.refl w9.heap.size w9)
          replace P := hide ((And.intro (P.out.1.step bx) (And.intro (P.out.2.1.step bx) (And.intro (P.out.2.2.1.step bx) (P.out.2.2.2.step bx)))))
          replace T := hide ((And.intro (T.out.1.step bx) (And.intro (T.out.2.1.step bx) (And.intro (T.out.2.2.1.step bx) (T.out.2.2.2.step bx)))))
          replace OO := hide (And.intro (OO.out.1.step bx) (OO.out.2.step bx))
          replace BB := hide (Below.step1 BB.out bx)
          replace B := hide (Below.step B.out B.out.size bx)
          clear bx
          go_wp2_with fail
          go_region_held3 (fun W => (W.cell? ⟨g7, 0, none⟩ = some (.bool s7) ∧ W.cell? ⟨g7, 1, none⟩ = some (.slice A7 n7 c7)) ∧ (W.cell? ⟨g7 + 1, 0, none⟩ = some (.bool s8) ∧ W.cell? ⟨g7 + 1, 1, none⟩ = some (.slice A8 n8 c8)) ∧ (W.cell? ⟨h0, 0, none⟩ = some (.bool su) ∧ W.cell? ⟨h0, 1, none⟩ = some (.slice Au nu cu)) ∧ (W.cell? ⟨h1, 0, none⟩ = some (.bool sv) ∧ W.cell? ⟨h1, 1, none⟩ = some (.slice Av nv cv)))
            (exact P.out)
            (first
              | (go_at_call 15; refine Calls.mono (qto_any (z := zq ai bi) (L := 5 * 12 + 1) ?_ (by omega)) ?_; (focus ((with_reducible exact T.out.2.2.1); done)); rintro e wx ⟨vx, rfl, tx, bx⟩; replace P := hide ((And.intro (P.out.1.step bx) (And.intro (P.out.2.1.step bx) (And.intro (P.out.2.2.1.step bx) (P.out.2.2.2.step bx))))); replace T := hide ((And.intro (T.out.1.step bx) (And.intro (T.out.2.1.step bx) (And.intro (T.out.2.2.1.step bx) (T.out.2.2.2.step bx))))); replace OO := hide (And.intro (OO.out.1.step bx) (OO.out.2.step bx)); replace BB := hide (Below.step1 BB.out bx); replace B := hide (Below.step B.out B.out.size bx))
              | (go_at_call 15; refine Calls.mono (qto_any (z := zr ai bi) (L := 5 * 12 + 1 + 5 * 12 + 1) ?_ (by omega)) ?_; (focus ((with_reducible exact T.out.2.2.2); done)); rintro e wx ⟨vx, rfl, tx, bx⟩; replace P := hide ((And.intro (P.out.1.step bx) (And.intro (P.out.2.1.step bx) (And.intro (P.out.2.2.1.step bx) (P.out.2.2.2.step bx))))); replace T := hide ((And.intro (T.out.1.step bx) (And.intro (T.out.2.1.step bx) (And.intro (T.out.2.2.1.step bx) (T.out.2.2.2.step bx))))); replace OO := hide (And.intro (OO.out.1.step bx) (OO.out.2.step bx)); replace BB := hide (Below.step1 BB.out bx); replace B := hide (Below.step B.out B.out.size bx))
              | (go_at_call 13; refine Calls.mono (zsame_i (z := zq ai bi) (L := 12 + 1) (M := 5 * 12 + 1) ?_ ?_) ?_; (focus ((with_reducible exact T.out.1); done)); (focus ((repeat (first | (with_reducible assumption) | (with_reducible refine Zi.step ?_ (by with_reducible assumption)))); done)); rintro e wx ⟨rfl, bx⟩; replace P := hide ((And.intro (P.out.1.step bx) (And.intro (P.out.2.1.step bx) (And.intro (P.out.2.2.1.step bx) (P.out.2.2.2.step bx))))); replace T := hide ((And.intro (T.out.1.step bx) (And.intro (T.out.2.1.step bx) (And.intro (T.out.2.2.1.step bx) (T.out.2.2.2.step bx))))); replace OO := hide (And.intro (OO.out.1.step bx) (OO.out.2.step bx)); replace BB := hide (Below.step1 BB.out bx); replace B := hide (Below.step B.out B.out.size bx))
              | (go_at_call 13; refine Calls.mono (zsame_i (z := zr ai bi) (L := 12 + 1) (M := 5 * 12 + 1 + 5 * 12 + 1) ?_ ?_) ?_; (focus ((with_reducible exact T.out.2.1); done)); (focus ((repeat (first | (with_reducible assumption) | (with_reducible refine Zi.step ?_ (by with_reducible assumption)))); done)); rintro e wx ⟨rfl, bx⟩; replace P := hide ((And.intro (P.out.1.step bx) (And.intro (P.out.2.1.step bx) (And.intro (P.out.2.2.1.step bx) (P.out.2.2.2.step bx))))); replace T := hide ((And.intro (T.out.1.step bx) (And.intro (T.out.2.1.step bx) (And.intro (T.out.2.2.1.step bx) (T.out.2.2.2.step bx))))); replace OO := hide (And.intro (OO.out.1.step bx) (OO.out.2.step bx)); replace BB := hide (Below.step1 BB.out bx); replace B := hide (Below.step B.out B.out.size bx)))
          all_goals
            generalize wx = w10 at *
            obtain ⟨⟨p0, p1⟩, q0, q1⟩ := P.out
            have hm7 : g7 + 1 < w10.heap.size := HS7.out w10 P.out.2.1.1
            go_wp2_with fail
            refine (zspoil_own OO.out.1).mono ?_
            rintro e w11 ⟨rfl, hg⟩
            have B11 := push_below BB.out OO.out.1 hg BB.out.size
            have OR := OO.out.2.grown hg (own_neb DJ.out)
            have Y8 := P.out.2.1.grown hg hm7 (fun h => absurd (LQ.out _ h) (by omega))
            have B := hide B11
            have OR := hide OR
            clear hg B11 BB OO P p0 p1 q0 q1
            obtain ⟨q0, q1⟩ := Y8
            go_wp2_with fail
            refine (zspoil_own OR.out).mono ?_
            rintro e w12 ⟨rfl, hg⟩
            have bx := push_below B.out OR.out hg B.out.size
            clear hg OR q0 q1
            have P := hide ((And.intro (PM.out.1.step bx) (And.intro (PM.out.2.1.step bx) (And.intro (PM.out.2.2.1.step bx) (PM.out.2.2.2.step bx)))))
            have R := hide ((And.intro (RM.out.1.step bx) (And.intro (RM.out.2.1.step bx) (And.intro (RM.out.2.2.1.step bx) (RM.out.2.2.2.step bx)))))
            have B := hide (Below.step BM.out BM.out.size bx)
            clear bx PM RM BM
            obtain ⟨⟨a0, a1⟩, ⟨b0, b1⟩, ⟨x0, x1⟩, y0, y1⟩ := P.out
            go_wp2_with fail
            refine (zsame_l (s := sa) R.out.2.2.1 R.out.1).mono ?_
            rintro e w13 ⟨rfl, bx⟩
            replace P := hide ((And.intro (P.out.1.step bx) (And.intro (P.out.2.1.step bx) (And.intro (P.out.2.2.1.step bx) (P.out.2.2.2.step bx)))))
            replace R := hide ((And.intro (R.out.1.step bx) (And.intro (R.out.2.1.step bx) (And.intro (R.out.2.2.1.step bx) (R.out.2.2.2.step bx)))))
            replace B := hide (Below.step B.out B.out.size bx)
            clear bx a0 a1 b0 b1 x0 x1 y0 y1
            obtain ⟨⟨a0, a1⟩, ⟨b0, b1⟩, ⟨x0, x1⟩, y0, y1⟩ := P.out
            go_wp2_with fail
            refine (zsame_l (s := sb) R.out.2.2.2 R.out.2.1).mono ?_
            rintro e w14 ⟨rfl, bx⟩
            replace B := hide (Below.step B.out B.out.size bx)
            clear bx a0 a1 b0 b1 x0 x1 y0 y1
            go_wp2_with fail
            go_ret
            exact ⟨rfl, B.out⟩
        refine wpAnyH_with 3 #[true, true, true, true, true, true, true, true, false, false, false] (fun a W => ∃ (sp : Bool) (Ap : Option Addr) (np cp : Nat) (su : Bool) (Au : Option Addr) (nu cu : Nat) (sv : Bool) (Av : Option Addr) (nv cv : Nat) (h0 : Nat), a = ⟨#[zv sa (.slice Aa na ca), zv sb (.slice Ab nb cb), .pointer (some ⟨w.heap.size, 0, none⟩), .pointer (some ⟨w.heap.size + 1, 0, none⟩), .bool false, .pointer (some ⟨g0, 0, none⟩), .pointer (some ⟨g1, 0, none⟩), .pointer (some ⟨g7, 0, none⟩), .pointer (some ⟨g7 + 1, 0, none⟩), .int .i64 0, .pointer (some ⟨gq, 0, none⟩), .pointer (some ⟨h0, 0, none⟩), undef, undef, .bool true, .bool false, zv sa (.slice Aa na ca), zv sb (.slice Ab nb cb), .bool false, zv sa (.slice Aa na ca), zv sa (.slice Ax nx cx), zv sb (.slice Ab nb cb), zv sb (.slice Ay ny cy), .tuple #[zv s7 (.slice A7 n7 c7), zv s8 (.slice A8 n8 c8), .int .i64 0], zv sa (.slice Ax nx cx), zv sb (.slice Ay ny cy), .tuple #[zv s7 (.slice A7 n7 c7), zv s8 (.slice A8 n8 c8), .int .i64 0], zv s7 (.slice A7 n7 c7), zv s8 (.slice A8 n8 c8), .int .i64 0, zv sb (.slice Ab nb cb), zv so (.slice Ao no co), zv so (.slice Ao no co), .int .i64 oz, .bool false, undef, undef, undef, undef, undef, undef, undef, undef, undef, undef, undef, undef, .tuple #[zv su (.slice Au nu cu), zv sv (.slice Av nv cv)], zv sa (.slice Aa na ca), zv sp (.slice Ap np cp), zv so (.slice Ao no co), .tuple #[zv su (.slice Au nu cu), zv sv (.slice Av nv cv)], zv su (.slice Au nu cu), zv sv (.slice Av nv cv), undef, undef, undef, undef, undef, undef, undef, undef, undef, undef, undef, undef, undef, undef, undef, undef, undef, undef, undef, undef, undef, undef, undef, undef, undef, undef, undef, undef, undef], []⟩ ∧ Sg w8.drew.heap.size w8.drew W [qblk, qblk] [some h0, none] (fun W => ((True ∧ Qi W (zv sp (.slice Ap np cp)) ai (5 * 12)) ∧ (Qi W (zv su (.slice Au nu cu)) (zq ai bi) (5 * 12 + 1) ∧ Qi W (zv sv (.slice Av nv cv)) (zr ai bi) (5 * 12 + 1 + 5 * 12 + 1))))) ?_ (fun Hs210 => ?_)
        · rintro a W ⟨sp, Ap, np, cp, su, Au, nu, cu, sv, Av, nv, cv, h0, rfl, st0⟩
          have hHeld := st0.1
          have st := hide st0
          clear st0
          refine wpAnyH_ready (rs := [8]) (by kernel_rfl) (by simp) ?_
          refine AllReadyH.cons rfl (fun K hK => ?_) ?_
          · go_simp
            have st2 := Sg.make st.out (Firm2.and (Firm2.and Firm2.yes (Firm2.qi _ _ _)) (Firm2.and (Firm2.qi _ _ _) (Firm2.qi _ _ _))) 1 _ rfl (by simp)
            refine hK.out _ _ st2.1 (fun hHeld => ?_)
            (try simp only [Act.put, List.setIfInBounds_toArray, List.set_cons_zero, List.set_cons_succ])
            exact Hs211.out _ _ ⟨sp, Ap, np, cp, su, Au, nu, cu, sv, Av, nv, cv, h0, W.heap.size, rfl, st2⟩
          exact AllReadyH.nil
        refine wpAnyH_with 3 #[true, true, true, true, true, true, true, false, true, false, false] (fun a W => ∃ (sp : Bool) (Ap : Option Addr) (np cp : Nat) (su : Bool) (Au : Option Addr) (nu cu : Nat) (sv : Bool) (Av : Option Addr) (nv cv : Nat) (h1 : Nat), a = ⟨#[zv sa (.slice Aa na ca), zv sb (.slice Ab nb cb), .pointer (some ⟨w.heap.size, 0, none⟩), .pointer (some ⟨w.heap.size + 1, 0, none⟩), .bool false, .pointer (some ⟨g0, 0, none⟩), .pointer (some ⟨g1, 0, none⟩), .pointer (some ⟨g7, 0, none⟩), .pointer (some ⟨g7 + 1, 0, none⟩), .int .i64 0, .pointer (some ⟨gq, 0, none⟩), undef, .pointer (some ⟨h1, 0, none⟩), undef, .bool true, .bool false, zv sa (.slice Aa na ca), zv sb (.slice Ab nb cb), .bool false, zv sa (.slice Aa na ca), zv sa (.slice Ax nx cx), zv sb (.slice Ab nb cb), zv sb (.slice Ay ny cy), .tuple #[zv s7 (.slice A7 n7 c7), zv s8 (.slice A8 n8 c8), .int .i64 0], zv sa (.slice Ax nx cx), zv sb (.slice Ay ny cy), .tuple #[zv s7 (.slice A7 n7 c7), zv s8 (.slice A8 n8 c8), .int .i64 0], zv s7 (.slice A7 n7 c7), zv s8 (.slice A8 n8 c8), .int .i64 0, zv sb (.slice Ab nb cb), zv so (.slice Ao no co), zv so (.slice Ao no co), .int .i64 oz, .bool false, undef, undef, undef, undef, undef, undef, undef, undef, undef, undef, undef, undef, .tuple #[zv su (.slice Au nu cu), zv sv (.slice Av nv cv)], zv sa (.slice Aa na ca), zv sp (.slice Ap np cp), zv so (.slice Ao no co), .tuple #[zv su (.slice Au nu cu), zv sv (.slice Av nv cv)], zv su (.slice Au nu cu), zv sv (.slice Av nv cv), undef, undef, undef, undef, undef, undef, undef, undef, undef, undef, undef, undef, undef, undef, undef, undef, undef, undef, undef, undef, undef, undef, undef, undef, undef, undef, undef, undef, undef], []⟩ ∧ Sg w8.drew.heap.size w8.drew W [qblk, qblk] [none, some h1] (fun W => ((True ∧ Qi W (zv sp (.slice Ap np cp)) ai (5 * 12)) ∧ (Qi W (zv su (.slice Au nu cu)) (zq ai bi) (5 * 12 + 1) ∧ Qi W (zv sv (.slice Av nv cv)) (zr ai bi) (5 * 12 + 1 + 5 * 12 + 1))))) ?_ (fun Hs201 => ?_)
        · rintro a W ⟨sp, Ap, np, cp, su, Au, nu, cu, sv, Av, nv, cv, h1, rfl, st0⟩
          have hHeld := st0.1
          have st := hide st0
          clear st0
          refine wpAnyH_ready (rs := [7]) (by kernel_rfl) (by simp) ?_
          refine AllReadyH.cons rfl (fun K hK => ?_) ?_
          · go_simp
            have st2 := Sg.make st.out (Firm2.and (Firm2.and Firm2.yes (Firm2.qi _ _ _)) (Firm2.and (Firm2.qi _ _ _) (Firm2.qi _ _ _))) 0 _ rfl (by simp)
            refine hK.out _ _ st2.1 (fun hHeld => ?_)
            (try simp only [Act.put, List.setIfInBounds_toArray, List.set_cons_zero, List.set_cons_succ])
            exact Hs211.out _ _ ⟨sp, Ap, np, cp, su, Au, nu, cu, sv, Av, nv, cv, W.heap.size, h1, rfl, st2⟩
          exact AllReadyH.nil
        refine wpAnyH_with 4 #[true, true, true, true, true, true, true, false, false, false, false] (fun a W => ∃ (sp : Bool) (Ap : Option Addr) (np cp : Nat) (su : Bool) (Au : Option Addr) (nu cu : Nat) (sv : Bool) (Av : Option Addr) (nv cv : Nat), a = ⟨#[zv sa (.slice Aa na ca), zv sb (.slice Ab nb cb), .pointer (some ⟨w.heap.size, 0, none⟩), .pointer (some ⟨w.heap.size + 1, 0, none⟩), .bool false, .pointer (some ⟨g0, 0, none⟩), .pointer (some ⟨g1, 0, none⟩), .pointer (some ⟨g7, 0, none⟩), .pointer (some ⟨g7 + 1, 0, none⟩), .int .i64 0, .pointer (some ⟨gq, 0, none⟩), undef, undef, undef, .bool true, .bool false, zv sa (.slice Aa na ca), zv sb (.slice Ab nb cb), .bool false, zv sa (.slice Aa na ca), zv sa (.slice Ax nx cx), zv sb (.slice Ab nb cb), zv sb (.slice Ay ny cy), .tuple #[zv s7 (.slice A7 n7 c7), zv s8 (.slice A8 n8 c8), .int .i64 0], zv sa (.slice Ax nx cx), zv sb (.slice Ay ny cy), .tuple #[zv s7 (.slice A7 n7 c7), zv s8 (.slice A8 n8 c8), .int .i64 0], zv s7 (.slice A7 n7 c7), zv s8 (.slice A8 n8 c8), .int .i64 0, zv sb (.slice Ab nb cb), zv so (.slice Ao no co), zv so (.slice Ao no co), .int .i64 oz, .bool false, undef, undef, undef, undef, undef, undef, undef, undef, undef, undef, undef, undef, .tuple #[zv su (.slice Au nu cu), zv sv (.slice Av nv cv)], zv sa (.slice Aa na ca), zv sp (.slice Ap np cp), zv so (.slice Ao no co), .tuple #[zv su (.slice Au nu cu), zv sv (.slice Av nv cv)], zv su (.slice Au nu cu), zv sv (.slice Av nv cv), undef, undef, undef, undef, undef, undef, undef, undef, undef, undef, undef, undef, undef, undef, undef, undef, undef, undef, undef, undef, undef, undef, undef, undef, undef, undef, undef, undef, undef], []⟩ ∧ Sg w8.drew.heap.size w8.drew W [qblk, qblk] [none, none] (fun W => ((True ∧ Qi W (zv sp (.slice Ap np cp)) ai (5 * 12)) ∧ (Qi W (zv su (.slice Au nu cu)) (zq ai bi) (5 * 12 + 1) ∧ Qi W (zv sv (.slice Av nv cv)) (zr ai bi) (5 * 12 + 1 + 5 * 12 + 1))))) ?_ (fun Hs200 => ?_)
        · rintro a W ⟨sp, Ap, np, cp, su, Au, nu, cu, sv, Av, nv, cv, rfl, st0⟩
          have hHeld := st0.1
          have st := hide st0
          clear st0
          refine wpAnyH_ready (rs := [7, 8]) (by kernel_rfl) (by simp) ?_
          refine AllReadyH.cons rfl (fun K hK => ?_) ?_
          · go_simp
            have st2 := Sg.make st.out (Firm2.and (Firm2.and Firm2.yes (Firm2.qi _ _ _)) (Firm2.and (Firm2.qi _ _ _) (Firm2.qi _ _ _))) 0 _ rfl (by simp)
            refine hK.out _ _ st2.1 (fun hHeld => ?_)
            (try simp only [Act.put, List.setIfInBounds_toArray, List.set_cons_zero, List.set_cons_succ])
            exact Hs210.out _ _ ⟨sp, Ap, np, cp, su, Au, nu, cu, sv, Av, nv, cv, W.heap.size, rfl, st2⟩
          refine AllReadyH.cons rfl (fun K hK => ?_) ?_
          · go_simp
            have st2 := Sg.make st.out (Firm2.and (Firm2.and Firm2.yes (Firm2.qi _ _ _)) (Firm2.and (Firm2.qi _ _ _) (Firm2.qi _ _ _))) 1 _ rfl (by simp)
            refine hK.out _ _ st2.1 (fun hHeld => ?_)
            (try simp only [Act.put, List.setIfInBounds_toArray, List.set_cons_zero, List.set_cons_succ])
            exact Hs201.out _ _ ⟨sp, Ap, np, cp, su, Au, nu, cu, sv, Av, nv, cv, W.heap.size, rfl, st2⟩
          exact AllReadyH.nil
        refine wpAnyH_with 6 #[true, true, true, false, false, false, false, true, true, false, false] (fun a W => ∃ (sp : Bool) (Ap : Option Addr) (np cp : Nat) (h0 : Nat) (h1 : Nat), a = ⟨#[zv sa (.slice Aa na ca), zv sb (.slice Ab nb cb), .pointer (some ⟨w.heap.size, 0, none⟩), .pointer (some ⟨w.heap.size + 1, 0, none⟩), .bool false, .pointer (some ⟨g0, 0, none⟩), .pointer (some ⟨g1, 0, none⟩), .pointer (some ⟨g7, 0, none⟩), .pointer (some ⟨g7 + 1, 0, none⟩), .int .i64 0, .pointer (some ⟨gq, 0, none⟩), .pointer (some ⟨h0, 0, none⟩), .pointer (some ⟨h1, 0, none⟩), undef, .bool true, .bool false, zv sa (.slice Aa na ca), zv sb (.slice Ab nb cb), .bool false, zv sa (.slice Aa na ca), zv sa (.slice Ax nx cx), zv sb (.slice Ab nb cb), zv sb (.slice Ay ny cy), .tuple #[zv s7 (.slice A7 n7 c7), zv s8 (.slice A8 n8 c8), .int .i64 0], zv sa (.slice Ax nx cx), zv sb (.slice Ay ny cy), .tuple #[zv s7 (.slice A7 n7 c7), zv s8 (.slice A8 n8 c8), .int .i64 0], zv s7 (.slice A7 n7 c7), zv s8 (.slice A8 n8 c8), .int .i64 0, zv sb (.slice Ab nb cb), zv so (.slice Ao no co), zv so (.slice Ao no co), .int .i64 oz, .bool false, undef, undef, undef, undef, undef, undef, undef, undef, undef, undef, undef, undef, undef, zv sa (.slice Aa na ca), zv sp (.slice Ap np cp), zv so (.slice Ao no co), undef, undef, undef, undef, undef, undef, undef, undef, undef, undef, undef, undef, undef, undef, undef, undef, undef, undef, undef, undef, undef, undef, undef, undef, undef, undef, undef, undef, undef, undef, undef, undef], []⟩ ∧ Sg w8.drew.heap.size w8.drew W [qblk, qblk] [some h0, some h1] (fun W => (True ∧ Qi W (zv sp (.slice Ap np cp)) ai (5 * 12)))) ?_ (fun Hs111 => ?_)
        · rintro a W ⟨sp, Ap, np, cp, h0, h1, rfl, st0⟩
          have hHeld := st0.1
          have st := hide st0
          clear st0
          refine wpAnyH_ready (rs := [3]) (by kernel_rfl) (by simp) ?_
          refine AllReadyH.cons rfl (fun K hK => ?_) ?_
          · go_simp
            go_at_call 14
            refine Calls.mono (qdivfloor_any (a := ai) (b := bi) (L := 5 * 12) st.out.2.2.1.2 (QO.out.step st.out.1) HB.out (by omega) (by omega)) ?_
            rintro e wx ⟨q9, r9, rfl, hq9, hr9, bx⟩
            obtain ⟨su, xu, Au, nu, cu, rfl, -, -, -⟩ := id hq9.parts
            obtain ⟨sv, xv, Av, nv, cv, rfl, -, -, -⟩ := id hr9.parts
            have tx := And.intro hq9 hr9
            clear hq9 hr9
            try dsimp only
            have st2 := Sg.call (G := fun W => (Qi W (zv su (.slice Au nu cu)) (zq ai bi) (5 * 12 + 1) ∧ Qi W (zv sv (.slice Av nv cv)) (zr ai bi) (5 * 12 + 1 + 5 * 12 + 1))) st.out bx (Firm2.and Firm2.yes (Firm2.qi _ _ _)) tx
            have hSt := hide st2
            refine hK.out _ _ st2.1 (fun hHeld => ?_)
            clear hK K st2
            (try simp only [Act.put, List.setIfInBounds_toArray, List.set_cons_zero, List.set_cons_succ])
            refine wpAnyH_take (i := 4) (v := ?_) rfl (by kernel_rfl) (by kernel_rfl) (by kernel_rfl) (fun _ _ _ h => h) (Or.inl ⟨?_, ?_⟩) (by assumption) ?_
            rotate_left
            · rfl
            · (intro w hSw; go_simp; try with_reducible rfl)
            (try simp only [Act.put, List.setIfInBounds_toArray, List.set_cons_zero, List.set_cons_succ])
            refine wpAnyH_take (i := 5) (v := ?_) rfl (by kernel_rfl) (by kernel_rfl) (by kernel_rfl) (fun _ _ _ h => h) (Or.inl ⟨?_, ?_⟩) (by assumption) ?_
            rotate_left
            · rfl
            · (intro w hSw; go_simp; try with_reducible rfl)
            (try simp only [Act.put, List.setIfInBounds_toArray, List.set_cons_zero, List.set_cons_succ])
            refine wpAnyH_take (i := 6) (v := ?_) rfl (by kernel_rfl) (by kernel_rfl) (by kernel_rfl) (fun _ _ _ h => h) (Or.inl ⟨?_, ?_⟩) (by assumption) ?_
            rotate_left
            · rfl
            · (intro w hSw; go_simp; try with_reducible rfl)
            (try simp only [Act.put, List.setIfInBounds_toArray, List.set_cons_zero, List.set_cons_succ])
            exact Hs211.out _ _ ⟨sp, Ap, np, cp, su, Au, nu, cu, sv, Av, nv, cv, h0, h1, rfl, hSt.out⟩
          exact AllReadyH.nil
        refine wpAnyH_with 7 #[true, true, true, false, false, false, false, true, false, false, false] (fun a W => ∃ (sp : Bool) (Ap : Option Addr) (np cp : Nat) (h0 : Nat), a = ⟨#[zv sa (.slice Aa na ca), zv sb (.slice Ab nb cb), .pointer (some ⟨w.heap.size, 0, none⟩), .pointer (some ⟨w.heap.size + 1, 0, none⟩), .bool false, .pointer (some ⟨g0, 0, none⟩), .pointer (some ⟨g1, 0, none⟩), .pointer (some ⟨g7, 0, none⟩), .pointer (some ⟨g7 + 1, 0, none⟩), .int .i64 0, .pointer (some ⟨gq, 0, none⟩), .pointer (some ⟨h0, 0, none⟩), undef, undef, .bool true, .bool false, zv sa (.slice Aa na ca), zv sb (.slice Ab nb cb), .bool false, zv sa (.slice Aa na ca), zv sa (.slice Ax nx cx), zv sb (.slice Ab nb cb), zv sb (.slice Ay ny cy), .tuple #[zv s7 (.slice A7 n7 c7), zv s8 (.slice A8 n8 c8), .int .i64 0], zv sa (.slice Ax nx cx), zv sb (.slice Ay ny cy), .tuple #[zv s7 (.slice A7 n7 c7), zv s8 (.slice A8 n8 c8), .int .i64 0], zv s7 (.slice A7 n7 c7), zv s8 (.slice A8 n8 c8), .int .i64 0, zv sb (.slice Ab nb cb), zv so (.slice Ao no co), zv so (.slice Ao no co), .int .i64 oz, .bool false, undef, undef, undef, undef, undef, undef, undef, undef, undef, undef, undef, undef, undef, zv sa (.slice Aa na ca), zv sp (.slice Ap np cp), zv so (.slice Ao no co), undef, undef, undef, undef, undef, undef, undef, undef, undef, undef, undef, undef, undef, undef, undef, undef, undef, undef, undef, undef, undef, undef, undef, undef, undef, undef, undef, undef, undef, undef, undef, undef], []⟩ ∧ Sg w8.drew.heap.size w8.drew W [qblk, qblk] [some h0, none] (fun W => (True ∧ Qi W (zv sp (.slice Ap np cp)) ai (5 * 12)))) ?_ (fun Hs110 => ?_)
        · rintro a W ⟨sp, Ap, np, cp, h0, rfl, st0⟩
          have hHeld := st0.1
          have st := hide st0
          clear st0
          refine wpAnyH_ready (rs := [3, 8]) (by kernel_rfl) (by simp) ?_
          refine AllReadyH.cons rfl (fun K hK => ?_) ?_
          · go_simp
            go_at_call 14
            refine Calls.mono (qdivfloor_any (a := ai) (b := bi) (L := 5 * 12) st.out.2.2.1.2 (QO.out.step st.out.1) HB.out (by omega) (by omega)) ?_
            rintro e wx ⟨q9, r9, rfl, hq9, hr9, bx⟩
            obtain ⟨su, xu, Au, nu, cu, rfl, -, -, -⟩ := id hq9.parts
            obtain ⟨sv, xv, Av, nv, cv, rfl, -, -, -⟩ := id hr9.parts
            have tx := And.intro hq9 hr9
            clear hq9 hr9
            try dsimp only
            have st2 := Sg.call (G := fun W => (Qi W (zv su (.slice Au nu cu)) (zq ai bi) (5 * 12 + 1) ∧ Qi W (zv sv (.slice Av nv cv)) (zr ai bi) (5 * 12 + 1 + 5 * 12 + 1))) st.out bx (Firm2.and Firm2.yes (Firm2.qi _ _ _)) tx
            have hSt := hide st2
            refine hK.out _ _ st2.1 (fun hHeld => ?_)
            clear hK K st2
            (try simp only [Act.put, List.setIfInBounds_toArray, List.set_cons_zero, List.set_cons_succ])
            refine wpAnyH_take (i := 4) (v := ?_) rfl (by kernel_rfl) (by kernel_rfl) (by kernel_rfl) (fun _ _ _ h => h) (Or.inl ⟨?_, ?_⟩) (by assumption) ?_
            rotate_left
            · rfl
            · (intro w hSw; go_simp; try with_reducible rfl)
            (try simp only [Act.put, List.setIfInBounds_toArray, List.set_cons_zero, List.set_cons_succ])
            refine wpAnyH_take (i := 5) (v := ?_) rfl (by kernel_rfl) (by kernel_rfl) (by kernel_rfl) (fun _ _ _ h => h) (Or.inl ⟨?_, ?_⟩) (by assumption) ?_
            rotate_left
            · rfl
            · (intro w hSw; go_simp; try with_reducible rfl)
            (try simp only [Act.put, List.setIfInBounds_toArray, List.set_cons_zero, List.set_cons_succ])
            refine wpAnyH_take (i := 6) (v := ?_) rfl (by kernel_rfl) (by kernel_rfl) (by kernel_rfl) (fun _ _ _ h => h) (Or.inl ⟨?_, ?_⟩) (by assumption) ?_
            rotate_left
            · rfl
            · (intro w hSw; go_simp; try with_reducible rfl)
            (try simp only [Act.put, List.setIfInBounds_toArray, List.set_cons_zero, List.set_cons_succ])
            exact Hs210.out _ _ ⟨sp, Ap, np, cp, su, Au, nu, cu, sv, Av, nv, cv, h0, rfl, hSt.out⟩
          refine AllReadyH.cons rfl (fun K hK => ?_) ?_
          · go_simp
            have st2 := Sg.make st.out (Firm2.and Firm2.yes (Firm2.qi _ _ _)) 1 _ rfl (by simp)
            refine hK.out _ _ st2.1 (fun hHeld => ?_)
            (try simp only [Act.put, List.setIfInBounds_toArray, List.set_cons_zero, List.set_cons_succ])
            exact Hs111.out _ _ ⟨sp, Ap, np, cp, h0, W.heap.size, rfl, st2⟩
          exact AllReadyH.nil
        refine wpAnyH_with 7 #[true, true, true, false, false, false, false, false, true, false, false] (fun a W => ∃ (sp : Bool) (Ap : Option Addr) (np cp : Nat) (h1 : Nat), a = ⟨#[zv sa (.slice Aa na ca), zv sb (.slice Ab nb cb), .pointer (some ⟨w.heap.size, 0, none⟩), .pointer (some ⟨w.heap.size + 1, 0, none⟩), .bool false, .pointer (some ⟨g0, 0, none⟩), .pointer (some ⟨g1, 0, none⟩), .pointer (some ⟨g7, 0, none⟩), .pointer (some ⟨g7 + 1, 0, none⟩), .int .i64 0, .pointer (some ⟨gq, 0, none⟩), undef, .pointer (some ⟨h1, 0, none⟩), undef, .bool true, .bool false, zv sa (.slice Aa na ca), zv sb (.slice Ab nb cb), .bool false, zv sa (.slice Aa na ca), zv sa (.slice Ax nx cx), zv sb (.slice Ab nb cb), zv sb (.slice Ay ny cy), .tuple #[zv s7 (.slice A7 n7 c7), zv s8 (.slice A8 n8 c8), .int .i64 0], zv sa (.slice Ax nx cx), zv sb (.slice Ay ny cy), .tuple #[zv s7 (.slice A7 n7 c7), zv s8 (.slice A8 n8 c8), .int .i64 0], zv s7 (.slice A7 n7 c7), zv s8 (.slice A8 n8 c8), .int .i64 0, zv sb (.slice Ab nb cb), zv so (.slice Ao no co), zv so (.slice Ao no co), .int .i64 oz, .bool false, undef, undef, undef, undef, undef, undef, undef, undef, undef, undef, undef, undef, undef, zv sa (.slice Aa na ca), zv sp (.slice Ap np cp), zv so (.slice Ao no co), undef, undef, undef, undef, undef, undef, undef, undef, undef, undef, undef, undef, undef, undef, undef, undef, undef, undef, undef, undef, undef, undef, undef, undef, undef, undef, undef, undef, undef, undef, undef, undef], []⟩ ∧ Sg w8.drew.heap.size w8.drew W [qblk, qblk] [none, some h1] (fun W => (True ∧ Qi W (zv sp (.slice Ap np cp)) ai (5 * 12)))) ?_ (fun Hs101 => ?_)
        · rintro a W ⟨sp, Ap, np, cp, h1, rfl, st0⟩
          have hHeld := st0.1
          have st := hide st0
          clear st0
          refine wpAnyH_ready (rs := [3, 7]) (by kernel_rfl) (by simp) ?_
          refine AllReadyH.cons rfl (fun K hK => ?_) ?_
          · go_simp
            go_at_call 14
            refine Calls.mono (qdivfloor_any (a := ai) (b := bi) (L := 5 * 12) st.out.2.2.1.2 (QO.out.step st.out.1) HB.out (by omega) (by omega)) ?_
            rintro e wx ⟨q9, r9, rfl, hq9, hr9, bx⟩
            obtain ⟨su, xu, Au, nu, cu, rfl, -, -, -⟩ := id hq9.parts
            obtain ⟨sv, xv, Av, nv, cv, rfl, -, -, -⟩ := id hr9.parts
            have tx := And.intro hq9 hr9
            clear hq9 hr9
            try dsimp only
            have st2 := Sg.call (G := fun W => (Qi W (zv su (.slice Au nu cu)) (zq ai bi) (5 * 12 + 1) ∧ Qi W (zv sv (.slice Av nv cv)) (zr ai bi) (5 * 12 + 1 + 5 * 12 + 1))) st.out bx (Firm2.and Firm2.yes (Firm2.qi _ _ _)) tx
            have hSt := hide st2
            refine hK.out _ _ st2.1 (fun hHeld => ?_)
            clear hK K st2
            (try simp only [Act.put, List.setIfInBounds_toArray, List.set_cons_zero, List.set_cons_succ])
            refine wpAnyH_take (i := 4) (v := ?_) rfl (by kernel_rfl) (by kernel_rfl) (by kernel_rfl) (fun _ _ _ h => h) (Or.inl ⟨?_, ?_⟩) (by assumption) ?_
            rotate_left
            · rfl
            · (intro w hSw; go_simp; try with_reducible rfl)
            (try simp only [Act.put, List.setIfInBounds_toArray, List.set_cons_zero, List.set_cons_succ])
            refine wpAnyH_take (i := 5) (v := ?_) rfl (by kernel_rfl) (by kernel_rfl) (by kernel_rfl) (fun _ _ _ h => h) (Or.inl ⟨?_, ?_⟩) (by assumption) ?_
            rotate_left
            · rfl
            · (intro w hSw; go_simp; try with_reducible rfl)
            (try simp only [Act.put, List.setIfInBounds_toArray, List.set_cons_zero, List.set_cons_succ])
            refine wpAnyH_take (i := 6) (v := ?_) rfl (by kernel_rfl) (by kernel_rfl) (by kernel_rfl) (fun _ _ _ h => h) (Or.inl ⟨?_, ?_⟩) (by assumption) ?_
            rotate_left
            · rfl
            · (intro w hSw; go_simp; try with_reducible rfl)
            (try simp only [Act.put, List.setIfInBounds_toArray, List.set_cons_zero, List.set_cons_succ])
            exact Hs201.out _ _ ⟨sp, Ap, np, cp, su, Au, nu, cu, sv, Av, nv, cv, h1, rfl, hSt.out⟩
          refine AllReadyH.cons rfl (fun K hK => ?_) ?_
          · go_simp
            have st2 := Sg.make st.out (Firm2.and Firm2.yes (Firm2.qi _ _ _)) 0 _ rfl (by simp)
            refine hK.out _ _ st2.1 (fun hHeld => ?_)
            (try simp only [Act.put, List.setIfInBounds_toArray, List.set_cons_zero, List.set_cons_succ])
            exact Hs111.out _ _ ⟨sp, Ap, np, cp, W.heap.size, h1, rfl, st2⟩
          exact AllReadyH.nil
        refine wpAnyH_with 8 #[true, true, true, false, false, false, false, false, false, false, false] (fun a W => ∃ (sp : Bool) (Ap : Option Addr) (np cp : Nat), a = ⟨#[zv sa (.slice Aa na ca), zv sb (.slice Ab nb cb), .pointer (some ⟨w.heap.size, 0, none⟩), .pointer (some ⟨w.heap.size + 1, 0, none⟩), .bool false, .pointer (some ⟨g0, 0, none⟩), .pointer (some ⟨g1, 0, none⟩), .pointer (some ⟨g7, 0, none⟩), .pointer (some ⟨g7 + 1, 0, none⟩), .int .i64 0, .pointer (some ⟨gq, 0, none⟩), undef, undef, undef, .bool true, .bool false, zv sa (.slice Aa na ca), zv sb (.slice Ab nb cb), .bool false, zv sa (.slice Aa na ca), zv sa (.slice Ax nx cx), zv sb (.slice Ab nb cb), zv sb (.slice Ay ny cy), .tuple #[zv s7 (.slice A7 n7 c7), zv s8 (.slice A8 n8 c8), .int .i64 0], zv sa (.slice Ax nx cx), zv sb (.slice Ay ny cy), .tuple #[zv s7 (.slice A7 n7 c7), zv s8 (.slice A8 n8 c8), .int .i64 0], zv s7 (.slice A7 n7 c7), zv s8 (.slice A8 n8 c8), .int .i64 0, zv sb (.slice Ab nb cb), zv so (.slice Ao no co), zv so (.slice Ao no co), .int .i64 oz, .bool false, undef, undef, undef, undef, undef, undef, undef, undef, undef, undef, undef, undef, undef, zv sa (.slice Aa na ca), zv sp (.slice Ap np cp), zv so (.slice Ao no co), undef, undef, undef, undef, undef, undef, undef, undef, undef, undef, undef, undef, undef, undef, undef, undef, undef, undef, undef, undef, undef, undef, undef, undef, undef, undef, undef, undef, undef, undef, undef, undef], []⟩ ∧ Sg w8.drew.heap.size w8.drew W [qblk, qblk] [none, none] (fun W => (True ∧ Qi W (zv sp (.slice Ap np cp)) ai (5 * 12)))) ?_ (fun Hs100 => ?_)
        · rintro a W ⟨sp, Ap, np, cp, rfl, st0⟩
          have hHeld := st0.1
          have st := hide st0
          clear st0
          refine wpAnyH_ready (rs := [3, 7, 8]) (by kernel_rfl) (by simp) ?_
          refine AllReadyH.cons rfl (fun K hK => ?_) ?_
          · go_simp
            go_at_call 14
            refine Calls.mono (qdivfloor_any (a := ai) (b := bi) (L := 5 * 12) st.out.2.2.1.2 (QO.out.step st.out.1) HB.out (by omega) (by omega)) ?_
            rintro e wx ⟨q9, r9, rfl, hq9, hr9, bx⟩
            obtain ⟨su, xu, Au, nu, cu, rfl, -, -, -⟩ := id hq9.parts
            obtain ⟨sv, xv, Av, nv, cv, rfl, -, -, -⟩ := id hr9.parts
            have tx := And.intro hq9 hr9
            clear hq9 hr9
            try dsimp only
            have st2 := Sg.call (G := fun W => (Qi W (zv su (.slice Au nu cu)) (zq ai bi) (5 * 12 + 1) ∧ Qi W (zv sv (.slice Av nv cv)) (zr ai bi) (5 * 12 + 1 + 5 * 12 + 1))) st.out bx (Firm2.and Firm2.yes (Firm2.qi _ _ _)) tx
            have hSt := hide st2
            refine hK.out _ _ st2.1 (fun hHeld => ?_)
            clear hK K st2
            (try simp only [Act.put, List.setIfInBounds_toArray, List.set_cons_zero, List.set_cons_succ])
            refine wpAnyH_take (i := 4) (v := ?_) rfl (by kernel_rfl) (by kernel_rfl) (by kernel_rfl) (fun _ _ _ h => h) (Or.inl ⟨?_, ?_⟩) (by assumption) ?_
            rotate_left
            · rfl
            · (intro w hSw; go_simp; try with_reducible rfl)
            (try simp only [Act.put, List.setIfInBounds_toArray, List.set_cons_zero, List.set_cons_succ])
            refine wpAnyH_take (i := 5) (v := ?_) rfl (by kernel_rfl) (by kernel_rfl) (by kernel_rfl) (fun _ _ _ h => h) (Or.inl ⟨?_, ?_⟩) (by assumption) ?_
            rotate_left
            · rfl
            · (intro w hSw; go_simp; try with_reducible rfl)
            (try simp only [Act.put, List.setIfInBounds_toArray, List.set_cons_zero, List.set_cons_succ])
            refine wpAnyH_take (i := 6) (v := ?_) rfl (by kernel_rfl) (by kernel_rfl) (by kernel_rfl) (fun _ _ _ h => h) (Or.inl ⟨?_, ?_⟩) (by assumption) ?_
            rotate_left
            · rfl
            · (intro w hSw; go_simp; try with_reducible rfl)
            (try simp only [Act.put, List.setIfInBounds_toArray, List.set_cons_zero, List.set_cons_succ])
            exact Hs200.out _ _ ⟨sp, Ap, np, cp, su, Au, nu, cu, sv, Av, nv, cv, rfl, hSt.out⟩
          refine AllReadyH.cons rfl (fun K hK => ?_) ?_
          · go_simp
            have st2 := Sg.make st.out (Firm2.and Firm2.yes (Firm2.qi _ _ _)) 0 _ rfl (by simp)
            refine hK.out _ _ st2.1 (fun hHeld => ?_)
            (try simp only [Act.put, List.setIfInBounds_toArray, List.set_cons_zero, List.set_cons_succ])
            exact Hs110.out _ _ ⟨sp, Ap, np, cp, W.heap.size, rfl, st2⟩
          refine AllReadyH.cons rfl (fun K hK => ?_) ?_
          · go_simp
            have st2 := Sg.make st.out (Firm2.and Firm2.yes (Firm2.qi _ _ _)) 1 _ rfl (by simp)
            refine hK.out _ _ st2.1 (fun hHeld => ?_)
            (try simp only [Act.put, List.setIfInBounds_toArray, List.set_cons_zero, List.set_cons_succ])
            exact Hs101.out _ _ ⟨sp, Ap, np, cp, W.heap.size, rfl, st2⟩
          exact AllReadyH.nil
        refine wpAnyH_with 7 #[true, false, true, false, false, false, false, true, true, false, false] (fun a W => ∃ (h0 : Nat) (h1 : Nat), a = ⟨#[zv sa (.slice Aa na ca), zv sb (.slice Ab nb cb), .pointer (some ⟨w.heap.size, 0, none⟩), .pointer (some ⟨w.heap.size + 1, 0, none⟩), .bool false, .pointer (some ⟨g0, 0, none⟩), .pointer (some ⟨g1, 0, none⟩), .pointer (some ⟨g7, 0, none⟩), .pointer (some ⟨g7 + 1, 0, none⟩), .int .i64 0, .pointer (some ⟨gq, 0, none⟩), .pointer (some ⟨h0, 0, none⟩), .pointer (some ⟨h1, 0, none⟩), undef, .bool true, .bool false, zv sa (.slice Aa na ca), zv sb (.slice Ab nb cb), .bool false, zv sa (.slice Aa na ca), zv sa (.slice Ax nx cx), zv sb (.slice Ab nb cb), zv sb (.slice Ay ny cy), .tuple #[zv s7 (.slice A7 n7 c7), zv s8 (.slice A8 n8 c8), .int .i64 0], zv sa (.slice Ax nx cx), zv sb (.slice Ay ny cy), .tuple #[zv s7 (.slice A7 n7 c7), zv s8 (.slice A8 n8 c8), .int .i64 0], zv s7 (.slice A7 n7 c7), zv s8 (.slice A8 n8 c8), .int .i64 0, zv sb (.slice Ab nb cb), zv so (.slice Ao no co), zv so (.slice Ao no co), .int .i64 oz, .bool false, undef, undef, undef, undef, undef, undef, undef, undef, undef, undef, undef, undef, undef, zv sa (.slice Aa na ca), undef, zv so (.slice Ao no co), undef, undef, undef, undef, undef, undef, undef, undef, undef, undef, undef, undef, undef, undef, undef, undef, undef, undef, undef, undef, undef, undef, undef, undef, undef, undef, undef, undef, undef, undef, undef, undef], []⟩ ∧ Sg w8.drew.heap.size w8.drew W [qblk, qblk] [some h0, some h1] (fun W => True)) ?_ (fun Hs011 => ?_)
        · rintro a W ⟨h0, h1, rfl, st0⟩
          have hHeld := st0.1
          have st := hide st0
          clear st0
          refine wpAnyH_ready (rs := [1]) (by kernel_rfl) (by simp) ?_
          refine AllReadyH.cons rfl (fun K hK => ?_) ?_
          · go_simp
            go_at_call 11
            refine Calls.mono (qof_any (L := 12) (HA.out _ _ _ _ (R.out.1.step st.out.1)) (by omega)) ?_
            rintro e wx ⟨v9, rfl, tx, bx⟩
            obtain ⟨sp, xp, Ap, np, cp, rfl, -, -, -⟩ := id tx.parts
            try dsimp only
            have st2 := Sg.call (G := fun W => Qi W (zv sp (.slice Ap np cp)) ai (5 * 12)) st.out bx Firm2.yes tx
            have hSt := hide st2
            refine hK.out _ _ st2.1 (fun hHeld => ?_)
            clear hK K st2
            (try simp only [Act.put, List.setIfInBounds_toArray, List.set_cons_zero, List.set_cons_succ])
            exact Hs111.out _ _ ⟨sp, Ap, np, cp, h0, h1, rfl, hSt.out⟩
          exact AllReadyH.nil
        refine wpAnyH_with 8 #[true, false, true, false, false, false, false, true, false, false, false] (fun a W => ∃ (h0 : Nat), a = ⟨#[zv sa (.slice Aa na ca), zv sb (.slice Ab nb cb), .pointer (some ⟨w.heap.size, 0, none⟩), .pointer (some ⟨w.heap.size + 1, 0, none⟩), .bool false, .pointer (some ⟨g0, 0, none⟩), .pointer (some ⟨g1, 0, none⟩), .pointer (some ⟨g7, 0, none⟩), .pointer (some ⟨g7 + 1, 0, none⟩), .int .i64 0, .pointer (some ⟨gq, 0, none⟩), .pointer (some ⟨h0, 0, none⟩), undef, undef, .bool true, .bool false, zv sa (.slice Aa na ca), zv sb (.slice Ab nb cb), .bool false, zv sa (.slice Aa na ca), zv sa (.slice Ax nx cx), zv sb (.slice Ab nb cb), zv sb (.slice Ay ny cy), .tuple #[zv s7 (.slice A7 n7 c7), zv s8 (.slice A8 n8 c8), .int .i64 0], zv sa (.slice Ax nx cx), zv sb (.slice Ay ny cy), .tuple #[zv s7 (.slice A7 n7 c7), zv s8 (.slice A8 n8 c8), .int .i64 0], zv s7 (.slice A7 n7 c7), zv s8 (.slice A8 n8 c8), .int .i64 0, zv sb (.slice Ab nb cb), zv so (.slice Ao no co), zv so (.slice Ao no co), .int .i64 oz, .bool false, undef, undef, undef, undef, undef, undef, undef, undef, undef, undef, undef, undef, undef, zv sa (.slice Aa na ca), undef, zv so (.slice Ao no co), undef, undef, undef, undef, undef, undef, undef, undef, undef, undef, undef, undef, undef, undef, undef, undef, undef, undef, undef, undef, undef, undef, undef, undef, undef, undef, undef, undef, undef, undef, undef, undef], []⟩ ∧ Sg w8.drew.heap.size w8.drew W [qblk, qblk] [some h0, none] (fun W => True)) ?_ (fun Hs010 => ?_)
        · rintro a W ⟨h0, rfl, st0⟩
          have hHeld := st0.1
          have st := hide st0
          clear st0
          refine wpAnyH_ready (rs := [1, 8]) (by kernel_rfl) (by simp) ?_
          refine AllReadyH.cons rfl (fun K hK => ?_) ?_
          · go_simp
            go_at_call 11
            refine Calls.mono (qof_any (L := 12) (HA.out _ _ _ _ (R.out.1.step st.out.1)) (by omega)) ?_
            rintro e wx ⟨v9, rfl, tx, bx⟩
            obtain ⟨sp, xp, Ap, np, cp, rfl, -, -, -⟩ := id tx.parts
            try dsimp only
            have st2 := Sg.call (G := fun W => Qi W (zv sp (.slice Ap np cp)) ai (5 * 12)) st.out bx Firm2.yes tx
            have hSt := hide st2
            refine hK.out _ _ st2.1 (fun hHeld => ?_)
            clear hK K st2
            (try simp only [Act.put, List.setIfInBounds_toArray, List.set_cons_zero, List.set_cons_succ])
            exact Hs110.out _ _ ⟨sp, Ap, np, cp, h0, rfl, hSt.out⟩
          refine AllReadyH.cons rfl (fun K hK => ?_) ?_
          · go_simp
            have st2 := Sg.make st.out Firm2.yes 1 _ rfl (by simp)
            refine hK.out _ _ st2.1 (fun hHeld => ?_)
            (try simp only [Act.put, List.setIfInBounds_toArray, List.set_cons_zero, List.set_cons_succ])
            exact Hs011.out _ _ ⟨h0, W.heap.size, rfl, st2⟩
          exact AllReadyH.nil
        refine wpAnyH_with 8 #[true, false, true, false, false, false, false, false, true, false, false] (fun a W => ∃ (h1 : Nat), a = ⟨#[zv sa (.slice Aa na ca), zv sb (.slice Ab nb cb), .pointer (some ⟨w.heap.size, 0, none⟩), .pointer (some ⟨w.heap.size + 1, 0, none⟩), .bool false, .pointer (some ⟨g0, 0, none⟩), .pointer (some ⟨g1, 0, none⟩), .pointer (some ⟨g7, 0, none⟩), .pointer (some ⟨g7 + 1, 0, none⟩), .int .i64 0, .pointer (some ⟨gq, 0, none⟩), undef, .pointer (some ⟨h1, 0, none⟩), undef, .bool true, .bool false, zv sa (.slice Aa na ca), zv sb (.slice Ab nb cb), .bool false, zv sa (.slice Aa na ca), zv sa (.slice Ax nx cx), zv sb (.slice Ab nb cb), zv sb (.slice Ay ny cy), .tuple #[zv s7 (.slice A7 n7 c7), zv s8 (.slice A8 n8 c8), .int .i64 0], zv sa (.slice Ax nx cx), zv sb (.slice Ay ny cy), .tuple #[zv s7 (.slice A7 n7 c7), zv s8 (.slice A8 n8 c8), .int .i64 0], zv s7 (.slice A7 n7 c7), zv s8 (.slice A8 n8 c8), .int .i64 0, zv sb (.slice Ab nb cb), zv so (.slice Ao no co), zv so (.slice Ao no co), .int .i64 oz, .bool false, undef, undef, undef, undef, undef, undef, undef, undef, undef, undef, undef, undef, undef, zv sa (.slice Aa na ca), undef, zv so (.slice Ao no co), undef, undef, undef, undef, undef, undef, undef, undef, undef, undef, undef, undef, undef, undef, undef, undef, undef, undef, undef, undef, undef, undef, undef, undef, undef, undef, undef, undef, undef, undef, undef, undef], []⟩ ∧ Sg w8.drew.heap.size w8.drew W [qblk, qblk] [none, some h1] (fun W => True)) ?_ (fun Hs001 => ?_)
        · rintro a W ⟨h1, rfl, st0⟩
          have hHeld := st0.1
          have st := hide st0
          clear st0
          refine wpAnyH_ready (rs := [1, 7]) (by kernel_rfl) (by simp) ?_
          refine AllReadyH.cons rfl (fun K hK => ?_) ?_
          · go_simp
            go_at_call 11
            refine Calls.mono (qof_any (L := 12) (HA.out _ _ _ _ (R.out.1.step st.out.1)) (by omega)) ?_
            rintro e wx ⟨v9, rfl, tx, bx⟩
            obtain ⟨sp, xp, Ap, np, cp, rfl, -, -, -⟩ := id tx.parts
            try dsimp only
            have st2 := Sg.call (G := fun W => Qi W (zv sp (.slice Ap np cp)) ai (5 * 12)) st.out bx Firm2.yes tx
            have hSt := hide st2
            refine hK.out _ _ st2.1 (fun hHeld => ?_)
            clear hK K st2
            (try simp only [Act.put, List.setIfInBounds_toArray, List.set_cons_zero, List.set_cons_succ])
            exact Hs101.out _ _ ⟨sp, Ap, np, cp, h1, rfl, hSt.out⟩
          refine AllReadyH.cons rfl (fun K hK => ?_) ?_
          · go_simp
            have st2 := Sg.make st.out Firm2.yes 0 _ rfl (by simp)
            refine hK.out _ _ st2.1 (fun hHeld => ?_)
            (try simp only [Act.put, List.setIfInBounds_toArray, List.set_cons_zero, List.set_cons_succ])
            exact Hs011.out _ _ ⟨W.heap.size, h1, rfl, st2⟩
          exact AllReadyH.nil
        refine wpAnyH_take (i := 0) (v := ?_) rfl (by kernel_rfl) (by kernel_rfl) (by kernel_rfl) (fun _ _ _ h => h) (Or.inl ⟨?_, ?_⟩) (by assumption) ?_
        rotate_left
        · rfl
        · (intro w hSw; have e0 := cell_keep P.out.1.1 hSw; have e1 := cell_keep P.out.1.2 hSw; go_simp; try with_reducible rfl)
        (try simp only [Act.put, List.setIfInBounds_toArray, List.set_cons_zero, List.set_cons_succ])
        refine wpAnyH_take (i := 2) (v := ?_) rfl (by kernel_rfl) (by kernel_rfl) (by kernel_rfl) (fun _ _ _ h => h) (Or.inl ⟨?_, ?_⟩) (by assumption) ?_
        rotate_left
        · rfl
        · (intro w hSw; have e0 := cell_keep P.out.2.2.2.2.2.2.1 hSw; have e1 := cell_keep P.out.2.2.2.2.2.2.2 hSw; go_simp; try with_reducible rfl)
        (try simp only [Act.put, List.setIfInBounds_toArray, List.set_cons_zero, List.set_cons_succ])
        refine wpAnyH_with 9 #[true, false, true, false, false, false, false, false, false, false, false] (fun a W => a = ⟨#[zv sa (.slice Aa na ca), zv sb (.slice Ab nb cb), .pointer (some ⟨w.heap.size, 0, none⟩), .pointer (some ⟨w.heap.size + 1, 0, none⟩), .bool false, .pointer (some ⟨g0, 0, none⟩), .pointer (some ⟨g1, 0, none⟩), .pointer (some ⟨g7, 0, none⟩), .pointer (some ⟨g7 + 1, 0, none⟩), .int .i64 0, .pointer (some ⟨gq, 0, none⟩), undef, undef, undef, .bool true, .bool false, zv sa (.slice Aa na ca), zv sb (.slice Ab nb cb), .bool false, zv sa (.slice Aa na ca), zv sa (.slice Ax nx cx), zv sb (.slice Ab nb cb), zv sb (.slice Ay ny cy), .tuple #[zv s7 (.slice A7 n7 c7), zv s8 (.slice A8 n8 c8), .int .i64 0], zv sa (.slice Ax nx cx), zv sb (.slice Ay ny cy), .tuple #[zv s7 (.slice A7 n7 c7), zv s8 (.slice A8 n8 c8), .int .i64 0], zv s7 (.slice A7 n7 c7), zv s8 (.slice A8 n8 c8), .int .i64 0, zv sb (.slice Ab nb cb), zv so (.slice Ao no co), zv so (.slice Ao no co), .int .i64 oz, .bool false, undef, undef, undef, undef, undef, undef, undef, undef, undef, undef, undef, undef, undef, zv sa (.slice Aa na ca), undef, zv so (.slice Ao no co), undef, undef, undef, undef, undef, undef, undef, undef, undef, undef, undef, undef, undef, undef, undef, undef, undef, undef, undef, undef, undef, undef, undef, undef, undef, undef, undef, undef, undef, undef, undef, undef], []⟩ ∧ Sg w8.drew.heap.size w8.drew W [qblk, qblk] [none, none] (fun W => True)) ?_ (fun Hs => Hs.out _ _ ⟨rfl, Sg.start _ _ 2⟩)
        rintro a W ⟨rfl, st0⟩
        have hHeld := st0.1
        have st := hide st0
        clear st0
        refine wpAnyH_ready (rs := [1, 7, 8]) (by kernel_rfl) (by simp) ?_
        refine AllReadyH.cons rfl (fun K hK => ?_) ?_
        · go_simp
          go_at_call 11
          refine Calls.mono (qof_any (L := 12) (HA.out _ _ _ _ (R.out.1.step st.out.1)) (by omega)) ?_
          rintro e wx ⟨v9, rfl, tx, bx⟩
          obtain ⟨sp, xp, Ap, np, cp, rfl, -, -, -⟩ := id tx.parts
          try dsimp only
          have st2 := Sg.call (G := fun W => Qi W (zv sp (.slice Ap np cp)) ai (5 * 12)) st.out bx Firm2.yes tx
          have hSt := hide st2
          refine hK.out _ _ st2.1 (fun hHeld => ?_)
          clear hK K st2
          (try simp only [Act.put, List.setIfInBounds_toArray, List.set_cons_zero, List.set_cons_succ])
          exact Hs100.out _ _ ⟨sp, Ap, np, cp, rfl, hSt.out⟩
        refine AllReadyH.cons rfl (fun K hK => ?_) ?_
        · go_simp
          have st2 := Sg.make st.out Firm2.yes 0 _ rfl (by simp)
          refine hK.out _ _ st2.1 (fun hHeld => ?_)
          (try simp only [Act.put, List.setIfInBounds_toArray, List.set_cons_zero, List.set_cons_succ])
          exact Hs010.out _ _ ⟨W.heap.size, rfl, st2⟩
        refine AllReadyH.cons rfl (fun K hK => ?_) ?_
        · go_simp
          have st2 := Sg.make st.out Firm2.yes 1 _ rfl (by simp)
          refine hK.out _ _ st2.1 (fun hHeld => ?_)
          (try simp only [Act.put, List.setIfInBounds_toArray, List.set_cons_zero, List.set_cons_succ])
          exact Hs001.out _ _ ⟨W.heap.size, rfl, st2⟩
        exact AllReadyH.nil
      refine wpAnyH_with 3 #[true, true, true, true, true, false, false, false] (fun a W => ∃ (Ax : Option Addr) (nx cx : Nat) (Ay : Option Addr) (ny cy : Nat) (g0 : Nat), a = ⟨#[zv sa (.slice Aa na ca), zv sb (.slice Ab nb cb), .pointer (some ⟨w.heap.size, 0, none⟩), .pointer (some ⟨w.heap.size + 1, 0, none⟩), .bool false, .pointer (some ⟨g0, 0, none⟩), undef, undef, undef, undef, undef, undef, undef, undef, .bool true, .bool false, zv sa (.slice Aa na ca), zv sb (.slice Ab nb cb), .bool false, zv sa (.slice Aa na ca), zv sa (.slice Ax nx cx), zv sb (.slice Ab nb cb), zv sb (.slice Ay ny cy), undef, undef, undef, undef, undef, undef, undef, undef, undef, undef, undef, undef, undef, undef, undef, undef, undef, undef, undef, undef, undef, undef, undef, undef, undef, undef, undef, undef, undef, undef, undef, undef, undef, undef, undef, undef, undef, undef, undef, undef, undef, undef, undef, undef, undef, undef, undef, undef, undef, undef, undef, undef, undef, undef, undef, undef, undef, undef, undef, undef], []⟩ ∧ Sg w2.drew.heap.size w2.drew W [zblk, zblk] [some g0, none] (fun W => ((True ∧ Lw W (.slice Ax nx cx) xsa 12) ∧ Lw W (.slice Ay ny cy) xsb 12))) ?_ (fun Hs210 => ?_)
      · rintro a W ⟨Ax, nx, cx, Ay, ny, cy, g0, rfl, st0⟩
        have hHeld := st0.1
        have st := hide st0
        clear st0
        refine wpAnyH_ready (rs := [5]) (by kernel_rfl) (by simp) ?_
        refine AllReadyH.cons rfl (fun K hK => ?_) ?_
        · go_simp
          have st2 := Sg.make st.out (Firm2.and (Firm2.and Firm2.yes (Firm2.lw _ _ _)) (Firm2.lw _ _ _)) 1 _ rfl (by simp)
          refine hK.out _ _ st2.1 (fun hHeld => ?_)
          (try simp only [Act.put, List.setIfInBounds_toArray, List.set_cons_zero, List.set_cons_succ])
          exact Hs211.out _ _ ⟨Ax, nx, cx, Ay, ny, cy, g0, W.heap.size, rfl, st2⟩
        exact AllReadyH.nil
      refine wpAnyH_with 3 #[true, true, true, true, false, true, false, false] (fun a W => ∃ (Ax : Option Addr) (nx cx : Nat) (Ay : Option Addr) (ny cy : Nat) (g1 : Nat), a = ⟨#[zv sa (.slice Aa na ca), zv sb (.slice Ab nb cb), .pointer (some ⟨w.heap.size, 0, none⟩), .pointer (some ⟨w.heap.size + 1, 0, none⟩), .bool false, undef, .pointer (some ⟨g1, 0, none⟩), undef, undef, undef, undef, undef, undef, undef, .bool true, .bool false, zv sa (.slice Aa na ca), zv sb (.slice Ab nb cb), .bool false, zv sa (.slice Aa na ca), zv sa (.slice Ax nx cx), zv sb (.slice Ab nb cb), zv sb (.slice Ay ny cy), undef, undef, undef, undef, undef, undef, undef, undef, undef, undef, undef, undef, undef, undef, undef, undef, undef, undef, undef, undef, undef, undef, undef, undef, undef, undef, undef, undef, undef, undef, undef, undef, undef, undef, undef, undef, undef, undef, undef, undef, undef, undef, undef, undef, undef, undef, undef, undef, undef, undef, undef, undef, undef, undef, undef, undef, undef, undef, undef, undef], []⟩ ∧ Sg w2.drew.heap.size w2.drew W [zblk, zblk] [none, some g1] (fun W => ((True ∧ Lw W (.slice Ax nx cx) xsa 12) ∧ Lw W (.slice Ay ny cy) xsb 12))) ?_ (fun Hs201 => ?_)
      · rintro a W ⟨Ax, nx, cx, Ay, ny, cy, g1, rfl, st0⟩
        have hHeld := st0.1
        have st := hide st0
        clear st0
        refine wpAnyH_ready (rs := [4]) (by kernel_rfl) (by simp) ?_
        refine AllReadyH.cons rfl (fun K hK => ?_) ?_
        · go_simp
          have st2 := Sg.make st.out (Firm2.and (Firm2.and Firm2.yes (Firm2.lw _ _ _)) (Firm2.lw _ _ _)) 0 _ rfl (by simp)
          refine hK.out _ _ st2.1 (fun hHeld => ?_)
          (try simp only [Act.put, List.setIfInBounds_toArray, List.set_cons_zero, List.set_cons_succ])
          exact Hs211.out _ _ ⟨Ax, nx, cx, Ay, ny, cy, W.heap.size, g1, rfl, st2⟩
        exact AllReadyH.nil
      refine wpAnyH_with 4 #[true, true, true, true, false, false, false, false] (fun a W => ∃ (Ax : Option Addr) (nx cx : Nat) (Ay : Option Addr) (ny cy : Nat), a = ⟨#[zv sa (.slice Aa na ca), zv sb (.slice Ab nb cb), .pointer (some ⟨w.heap.size, 0, none⟩), .pointer (some ⟨w.heap.size + 1, 0, none⟩), .bool false, undef, undef, undef, undef, undef, undef, undef, undef, undef, .bool true, .bool false, zv sa (.slice Aa na ca), zv sb (.slice Ab nb cb), .bool false, zv sa (.slice Aa na ca), zv sa (.slice Ax nx cx), zv sb (.slice Ab nb cb), zv sb (.slice Ay ny cy), undef, undef, undef, undef, undef, undef, undef, undef, undef, undef, undef, undef, undef, undef, undef, undef, undef, undef, undef, undef, undef, undef, undef, undef, undef, undef, undef, undef, undef, undef, undef, undef, undef, undef, undef, undef, undef, undef, undef, undef, undef, undef, undef, undef, undef, undef, undef, undef, undef, undef, undef, undef, undef, undef, undef, undef, undef, undef, undef, undef], []⟩ ∧ Sg w2.drew.heap.size w2.drew W [zblk, zblk] [none, none] (fun W => ((True ∧ Lw W (.slice Ax nx cx) xsa 12) ∧ Lw W (.slice Ay ny cy) xsb 12))) ?_ (fun Hs200 => ?_)
      · rintro a W ⟨Ax, nx, cx, Ay, ny, cy, rfl, st0⟩
        have hHeld := st0.1
        have st := hide st0
        clear st0
        refine wpAnyH_ready (rs := [4, 5]) (by kernel_rfl) (by simp) ?_
        refine AllReadyH.cons rfl (fun K hK => ?_) ?_
        · go_simp
          have st2 := Sg.make st.out (Firm2.and (Firm2.and Firm2.yes (Firm2.lw _ _ _)) (Firm2.lw _ _ _)) 0 _ rfl (by simp)
          refine hK.out _ _ st2.1 (fun hHeld => ?_)
          (try simp only [Act.put, List.setIfInBounds_toArray, List.set_cons_zero, List.set_cons_succ])
          exact Hs210.out _ _ ⟨Ax, nx, cx, Ay, ny, cy, W.heap.size, rfl, st2⟩
        refine AllReadyH.cons rfl (fun K hK => ?_) ?_
        · go_simp
          have st2 := Sg.make st.out (Firm2.and (Firm2.and Firm2.yes (Firm2.lw _ _ _)) (Firm2.lw _ _ _)) 1 _ rfl (by simp)
          refine hK.out _ _ st2.1 (fun hHeld => ?_)
          (try simp only [Act.put, List.setIfInBounds_toArray, List.set_cons_zero, List.set_cons_succ])
          exact Hs201.out _ _ ⟨Ax, nx, cx, Ay, ny, cy, W.heap.size, rfl, st2⟩
        exact AllReadyH.nil
      refine wpAnyH_with 3 #[true, true, true, false, true, true, false, false] (fun a W => ∃ (Ax : Option Addr) (nx cx : Nat) (g0 : Nat) (g1 : Nat), a = ⟨#[zv sa (.slice Aa na ca), zv sb (.slice Ab nb cb), .pointer (some ⟨w.heap.size, 0, none⟩), .pointer (some ⟨w.heap.size + 1, 0, none⟩), .bool false, .pointer (some ⟨g0, 0, none⟩), .pointer (some ⟨g1, 0, none⟩), undef, undef, undef, undef, undef, undef, undef, .bool true, .bool false, zv sa (.slice Aa na ca), zv sb (.slice Ab nb cb), .bool false, zv sa (.slice Aa na ca), zv sa (.slice Ax nx cx), zv sb (.slice Ab nb cb), undef, undef, undef, undef, undef, undef, undef, undef, undef, undef, undef, undef, undef, undef, undef, undef, undef, undef, undef, undef, undef, undef, undef, undef, undef, undef, undef, undef, undef, undef, undef, undef, undef, undef, undef, undef, undef, undef, undef, undef, undef, undef, undef, undef, undef, undef, undef, undef, undef, undef, undef, undef, undef, undef, undef, undef, undef, undef, undef, undef, undef], []⟩ ∧ Sg w2.drew.heap.size w2.drew W [zblk, zblk] [some g0, some g1] (fun W => (True ∧ Lw W (.slice Ax nx cx) xsa 12))) ?_ (fun Hs111 => ?_)
      · rintro a W ⟨Ax, nx, cx, g0, g1, rfl, st0⟩
        have hHeld := st0.1
        have st := hide st0
        clear st0
        refine wpAnyH_ready (rs := [3]) (by kernel_rfl) (by simp) ?_
        refine AllReadyH.cons rfl (fun K hK => ?_) ?_
        · go_simp
          go_at_call 9
          refine Calls.mono (zcopy_l (L := 12) (R.out.2.step st.out.1) (by omega)) ?_
          rintro e wx ⟨v9, rfl, tx, bx⟩
          obtain ⟨Ay, ny, cy, rfl⟩ := tx.nw.slice
          try dsimp only
          have st2 := Sg.call (G := fun W => Lw W (.slice Ay ny cy) xsb 12) st.out bx (Firm2.and Firm2.yes (Firm2.lw _ _ _)) tx
          have hSt := hide st2
          refine hK.out _ _ st2.1 (fun hHeld => ?_)
          clear hK K st2
          (try simp only [Act.put, List.setIfInBounds_toArray, List.set_cons_zero, List.set_cons_succ])
          exact Hs211.out _ _ ⟨Ax, nx, cx, Ay, ny, cy, g0, g1, rfl, hSt.out⟩
        exact AllReadyH.nil
      refine wpAnyH_with 4 #[true, true, true, false, true, false, false, false] (fun a W => ∃ (Ax : Option Addr) (nx cx : Nat) (g0 : Nat), a = ⟨#[zv sa (.slice Aa na ca), zv sb (.slice Ab nb cb), .pointer (some ⟨w.heap.size, 0, none⟩), .pointer (some ⟨w.heap.size + 1, 0, none⟩), .bool false, .pointer (some ⟨g0, 0, none⟩), undef, undef, undef, undef, undef, undef, undef, undef, .bool true, .bool false, zv sa (.slice Aa na ca), zv sb (.slice Ab nb cb), .bool false, zv sa (.slice Aa na ca), zv sa (.slice Ax nx cx), zv sb (.slice Ab nb cb), undef, undef, undef, undef, undef, undef, undef, undef, undef, undef, undef, undef, undef, undef, undef, undef, undef, undef, undef, undef, undef, undef, undef, undef, undef, undef, undef, undef, undef, undef, undef, undef, undef, undef, undef, undef, undef, undef, undef, undef, undef, undef, undef, undef, undef, undef, undef, undef, undef, undef, undef, undef, undef, undef, undef, undef, undef, undef, undef, undef, undef], []⟩ ∧ Sg w2.drew.heap.size w2.drew W [zblk, zblk] [some g0, none] (fun W => (True ∧ Lw W (.slice Ax nx cx) xsa 12))) ?_ (fun Hs110 => ?_)
      · rintro a W ⟨Ax, nx, cx, g0, rfl, st0⟩
        have hHeld := st0.1
        have st := hide st0
        clear st0
        refine wpAnyH_ready (rs := [3, 5]) (by kernel_rfl) (by simp) ?_
        refine AllReadyH.cons rfl (fun K hK => ?_) ?_
        · go_simp
          go_at_call 9
          refine Calls.mono (zcopy_l (L := 12) (R.out.2.step st.out.1) (by omega)) ?_
          rintro e wx ⟨v9, rfl, tx, bx⟩
          obtain ⟨Ay, ny, cy, rfl⟩ := tx.nw.slice
          try dsimp only
          have st2 := Sg.call (G := fun W => Lw W (.slice Ay ny cy) xsb 12) st.out bx (Firm2.and Firm2.yes (Firm2.lw _ _ _)) tx
          have hSt := hide st2
          refine hK.out _ _ st2.1 (fun hHeld => ?_)
          clear hK K st2
          (try simp only [Act.put, List.setIfInBounds_toArray, List.set_cons_zero, List.set_cons_succ])
          exact Hs210.out _ _ ⟨Ax, nx, cx, Ay, ny, cy, g0, rfl, hSt.out⟩
        refine AllReadyH.cons rfl (fun K hK => ?_) ?_
        · go_simp
          have st2 := Sg.make st.out (Firm2.and Firm2.yes (Firm2.lw _ _ _)) 1 _ rfl (by simp)
          refine hK.out _ _ st2.1 (fun hHeld => ?_)
          (try simp only [Act.put, List.setIfInBounds_toArray, List.set_cons_zero, List.set_cons_succ])
          exact Hs111.out _ _ ⟨Ax, nx, cx, g0, W.heap.size, rfl, st2⟩
        exact AllReadyH.nil
      refine wpAnyH_with 4 #[true, true, true, false, false, true, false, false] (fun a W => ∃ (Ax : Option Addr) (nx cx : Nat) (g1 : Nat), a = ⟨#[zv sa (.slice Aa na ca), zv sb (.slice Ab nb cb), .pointer (some ⟨w.heap.size, 0, none⟩), .pointer (some ⟨w.heap.size + 1, 0, none⟩), .bool false, undef, .pointer (some ⟨g1, 0, none⟩), undef, undef, undef, undef, undef, undef, undef, .bool true, .bool false, zv sa (.slice Aa na ca), zv sb (.slice Ab nb cb), .bool false, zv sa (.slice Aa na ca), zv sa (.slice Ax nx cx), zv sb (.slice Ab nb cb), undef, undef, undef, undef, undef, undef, undef, undef, undef, undef, undef, undef, undef, undef, undef, undef, undef, undef, undef, undef, undef, undef, undef, undef, undef, undef, undef, undef, undef, undef, undef, undef, undef, undef, undef, undef, undef, undef, undef, undef, undef, undef, undef, undef, undef, undef, undef, undef, undef, undef, undef, undef, undef, undef, undef, undef, undef, undef, undef, undef, undef], []⟩ ∧ Sg w2.drew.heap.size w2.drew W [zblk, zblk] [none, some g1] (fun W => (True ∧ Lw W (.slice Ax nx cx) xsa 12))) ?_ (fun Hs101 => ?_)
      · rintro a W ⟨Ax, nx, cx, g1, rfl, st0⟩
        have hHeld := st0.1
        have st := hide st0
        clear st0
        refine wpAnyH_ready (rs := [3, 4]) (by kernel_rfl) (by simp) ?_
        refine AllReadyH.cons rfl (fun K hK => ?_) ?_
        · go_simp
          go_at_call 9
          refine Calls.mono (zcopy_l (L := 12) (R.out.2.step st.out.1) (by omega)) ?_
          rintro e wx ⟨v9, rfl, tx, bx⟩
          obtain ⟨Ay, ny, cy, rfl⟩ := tx.nw.slice
          try dsimp only
          have st2 := Sg.call (G := fun W => Lw W (.slice Ay ny cy) xsb 12) st.out bx (Firm2.and Firm2.yes (Firm2.lw _ _ _)) tx
          have hSt := hide st2
          refine hK.out _ _ st2.1 (fun hHeld => ?_)
          clear hK K st2
          (try simp only [Act.put, List.setIfInBounds_toArray, List.set_cons_zero, List.set_cons_succ])
          exact Hs201.out _ _ ⟨Ax, nx, cx, Ay, ny, cy, g1, rfl, hSt.out⟩
        refine AllReadyH.cons rfl (fun K hK => ?_) ?_
        · go_simp
          have st2 := Sg.make st.out (Firm2.and Firm2.yes (Firm2.lw _ _ _)) 0 _ rfl (by simp)
          refine hK.out _ _ st2.1 (fun hHeld => ?_)
          (try simp only [Act.put, List.setIfInBounds_toArray, List.set_cons_zero, List.set_cons_succ])
          exact Hs111.out _ _ ⟨Ax, nx, cx, W.heap.size, g1, rfl, st2⟩
        exact AllReadyH.nil
      refine wpAnyH_with 5 #[true, true, true, false, false, false, false, false] (fun a W => ∃ (Ax : Option Addr) (nx cx : Nat), a = ⟨#[zv sa (.slice Aa na ca), zv sb (.slice Ab nb cb), .pointer (some ⟨w.heap.size, 0, none⟩), .pointer (some ⟨w.heap.size + 1, 0, none⟩), .bool false, undef, undef, undef, undef, undef, undef, undef, undef, undef, .bool true, .bool false, zv sa (.slice Aa na ca), zv sb (.slice Ab nb cb), .bool false, zv sa (.slice Aa na ca), zv sa (.slice Ax nx cx), zv sb (.slice Ab nb cb), undef, undef, undef, undef, undef, undef, undef, undef, undef, undef, undef, undef, undef, undef, undef, undef, undef, undef, undef, undef, undef, undef, undef, undef, undef, undef, undef, undef, undef, undef, undef, undef, undef, undef, undef, undef, undef, undef, undef, undef, undef, undef, undef, undef, undef, undef, undef, undef, undef, undef, undef, undef, undef, undef, undef, undef, undef, undef, undef, undef, undef], []⟩ ∧ Sg w2.drew.heap.size w2.drew W [zblk, zblk] [none, none] (fun W => (True ∧ Lw W (.slice Ax nx cx) xsa 12))) ?_ (fun Hs100 => ?_)
      · rintro a W ⟨Ax, nx, cx, rfl, st0⟩
        have hHeld := st0.1
        have st := hide st0
        clear st0
        refine wpAnyH_ready (rs := [3, 4, 5]) (by kernel_rfl) (by simp) ?_
        refine AllReadyH.cons rfl (fun K hK => ?_) ?_
        · go_simp
          go_at_call 9
          refine Calls.mono (zcopy_l (L := 12) (R.out.2.step st.out.1) (by omega)) ?_
          rintro e wx ⟨v9, rfl, tx, bx⟩
          obtain ⟨Ay, ny, cy, rfl⟩ := tx.nw.slice
          try dsimp only
          have st2 := Sg.call (G := fun W => Lw W (.slice Ay ny cy) xsb 12) st.out bx (Firm2.and Firm2.yes (Firm2.lw _ _ _)) tx
          have hSt := hide st2
          refine hK.out _ _ st2.1 (fun hHeld => ?_)
          clear hK K st2
          (try simp only [Act.put, List.setIfInBounds_toArray, List.set_cons_zero, List.set_cons_succ])
          exact Hs200.out _ _ ⟨Ax, nx, cx, Ay, ny, cy, rfl, hSt.out⟩
        refine AllReadyH.cons rfl (fun K hK => ?_) ?_
        · go_simp
          have st2 := Sg.make st.out (Firm2.and Firm2.yes (Firm2.lw _ _ _)) 0 _ rfl (by simp)
          refine hK.out _ _ st2.1 (fun hHeld => ?_)
          (try simp only [Act.put, List.setIfInBounds_toArray, List.set_cons_zero, List.set_cons_succ])
          exact Hs110.out _ _ ⟨Ax, nx, cx, W.heap.size, rfl, st2⟩
        refine AllReadyH.cons rfl (fun K hK => ?_) ?_
        · go_simp
          have st2 := Sg.make st.out (Firm2.and Firm2.yes (Firm2.lw _ _ _)) 1 _ rfl (by simp)
          refine hK.out _ _ st2.1 (fun hHeld => ?_)
          (try simp only [Act.put, List.setIfInBounds_toArray, List.set_cons_zero, List.set_cons_succ])
          exact Hs101.out _ _ ⟨Ax, nx, cx, W.heap.size, rfl, st2⟩
        exact AllReadyH.nil
      refine wpAnyH_with 4 #[true, false, true, false, true, true, false, false] (fun a W => ∃ (g0 : Nat) (g1 : Nat), a = ⟨#[zv sa (.slice Aa na ca), zv sb (.slice Ab nb cb), .pointer (some ⟨w.heap.size, 0, none⟩), .pointer (some ⟨w.heap.size + 1, 0, none⟩), .bool false, .pointer (some ⟨g0, 0, none⟩), .pointer (some ⟨g1, 0, none⟩), undef, undef, undef, undef, undef, undef, undef, .bool true, .bool false, zv sa (.slice Aa na ca), zv sb (.slice Ab nb cb), .bool false, zv sa (.slice Aa na ca), undef, zv sb (.slice Ab nb cb), undef, undef, undef, undef, undef, undef, undef, undef, undef, undef, undef, undef, undef, undef, undef, undef, undef, undef, undef, undef, undef, undef, undef, undef, undef, undef, undef, undef, undef, undef, undef, undef, undef, undef, undef, undef, undef, undef, undef, undef, undef, undef, undef, undef, undef, undef, undef, undef, undef, undef, undef, undef, undef, undef, undef, undef, undef, undef, undef, undef, undef], []⟩ ∧ Sg w2.drew.heap.size w2.drew W [zblk, zblk] [some g0, some g1] (fun W => True)) ?_ (fun Hs011 => ?_)
      · rintro a W ⟨g0, g1, rfl, st0⟩
        have hHeld := st0.1
        have st := hide st0
        clear st0
        refine wpAnyH_ready (rs := [1]) (by kernel_rfl) (by simp) ?_
        refine AllReadyH.cons rfl (fun K hK => ?_) ?_
        · go_simp
          go_at_call 9
          refine Calls.mono (zcopy_l (L := 12) (R.out.1.step st.out.1) (by omega)) ?_
          rintro e wx ⟨v9, rfl, tx, bx⟩
          obtain ⟨Ax, nx, cx, rfl⟩ := tx.nw.slice
          try dsimp only
          have st2 := Sg.call (G := fun W => Lw W (.slice Ax nx cx) xsa 12) st.out bx Firm2.yes tx
          have hSt := hide st2
          refine hK.out _ _ st2.1 (fun hHeld => ?_)
          clear hK K st2
          (try simp only [Act.put, List.setIfInBounds_toArray, List.set_cons_zero, List.set_cons_succ])
          exact Hs111.out _ _ ⟨Ax, nx, cx, g0, g1, rfl, hSt.out⟩
        exact AllReadyH.nil
      refine wpAnyH_with 5 #[true, false, true, false, true, false, false, false] (fun a W => ∃ (g0 : Nat), a = ⟨#[zv sa (.slice Aa na ca), zv sb (.slice Ab nb cb), .pointer (some ⟨w.heap.size, 0, none⟩), .pointer (some ⟨w.heap.size + 1, 0, none⟩), .bool false, .pointer (some ⟨g0, 0, none⟩), undef, undef, undef, undef, undef, undef, undef, undef, .bool true, .bool false, zv sa (.slice Aa na ca), zv sb (.slice Ab nb cb), .bool false, zv sa (.slice Aa na ca), undef, zv sb (.slice Ab nb cb), undef, undef, undef, undef, undef, undef, undef, undef, undef, undef, undef, undef, undef, undef, undef, undef, undef, undef, undef, undef, undef, undef, undef, undef, undef, undef, undef, undef, undef, undef, undef, undef, undef, undef, undef, undef, undef, undef, undef, undef, undef, undef, undef, undef, undef, undef, undef, undef, undef, undef, undef, undef, undef, undef, undef, undef, undef, undef, undef, undef, undef], []⟩ ∧ Sg w2.drew.heap.size w2.drew W [zblk, zblk] [some g0, none] (fun W => True)) ?_ (fun Hs010 => ?_)
      · rintro a W ⟨g0, rfl, st0⟩
        have hHeld := st0.1
        have st := hide st0
        clear st0
        refine wpAnyH_ready (rs := [1, 5]) (by kernel_rfl) (by simp) ?_
        refine AllReadyH.cons rfl (fun K hK => ?_) ?_
        · go_simp
          go_at_call 9
          refine Calls.mono (zcopy_l (L := 12) (R.out.1.step st.out.1) (by omega)) ?_
          rintro e wx ⟨v9, rfl, tx, bx⟩
          obtain ⟨Ax, nx, cx, rfl⟩ := tx.nw.slice
          try dsimp only
          have st2 := Sg.call (G := fun W => Lw W (.slice Ax nx cx) xsa 12) st.out bx Firm2.yes tx
          have hSt := hide st2
          refine hK.out _ _ st2.1 (fun hHeld => ?_)
          clear hK K st2
          (try simp only [Act.put, List.setIfInBounds_toArray, List.set_cons_zero, List.set_cons_succ])
          exact Hs110.out _ _ ⟨Ax, nx, cx, g0, rfl, hSt.out⟩
        refine AllReadyH.cons rfl (fun K hK => ?_) ?_
        · go_simp
          have st2 := Sg.make st.out Firm2.yes 1 _ rfl (by simp)
          refine hK.out _ _ st2.1 (fun hHeld => ?_)
          (try simp only [Act.put, List.setIfInBounds_toArray, List.set_cons_zero, List.set_cons_succ])
          exact Hs011.out _ _ ⟨g0, W.heap.size, rfl, st2⟩
        exact AllReadyH.nil
      refine wpAnyH_with 5 #[true, false, true, false, false, true, false, false] (fun a W => ∃ (g1 : Nat), a = ⟨#[zv sa (.slice Aa na ca), zv sb (.slice Ab nb cb), .pointer (some ⟨w.heap.size, 0, none⟩), .pointer (some ⟨w.heap.size + 1, 0, none⟩), .bool false, undef, .pointer (some ⟨g1, 0, none⟩), undef, undef, undef, undef, undef, undef, undef, .bool true, .bool false, zv sa (.slice Aa na ca), zv sb (.slice Ab nb cb), .bool false, zv sa (.slice Aa na ca), undef, zv sb (.slice Ab nb cb), undef, undef, undef, undef, undef, undef, undef, undef, undef, undef, undef, undef, undef, undef, undef, undef, undef, undef, undef, undef, undef, undef, undef, undef, undef, undef, undef, undef, undef, undef, undef, undef, undef, undef, undef, undef, undef, undef, undef, undef, undef, undef, undef, undef, undef, undef, undef, undef, undef, undef, undef, undef, undef, undef, undef, undef, undef, undef, undef, undef, undef], []⟩ ∧ Sg w2.drew.heap.size w2.drew W [zblk, zblk] [none, some g1] (fun W => True)) ?_ (fun Hs001 => ?_)
      · rintro a W ⟨g1, rfl, st0⟩
        have hHeld := st0.1
        have st := hide st0
        clear st0
        refine wpAnyH_ready (rs := [1, 4]) (by kernel_rfl) (by simp) ?_
        refine AllReadyH.cons rfl (fun K hK => ?_) ?_
        · go_simp
          go_at_call 9
          refine Calls.mono (zcopy_l (L := 12) (R.out.1.step st.out.1) (by omega)) ?_
          rintro e wx ⟨v9, rfl, tx, bx⟩
          obtain ⟨Ax, nx, cx, rfl⟩ := tx.nw.slice
          try dsimp only
          have st2 := Sg.call (G := fun W => Lw W (.slice Ax nx cx) xsa 12) st.out bx Firm2.yes tx
          have hSt := hide st2
          refine hK.out _ _ st2.1 (fun hHeld => ?_)
          clear hK K st2
          (try simp only [Act.put, List.setIfInBounds_toArray, List.set_cons_zero, List.set_cons_succ])
          exact Hs101.out _ _ ⟨Ax, nx, cx, g1, rfl, hSt.out⟩
        refine AllReadyH.cons rfl (fun K hK => ?_) ?_
        · go_simp
          have st2 := Sg.make st.out Firm2.yes 0 _ rfl (by simp)
          refine hK.out _ _ st2.1 (fun hHeld => ?_)
          (try simp only [Act.put, List.setIfInBounds_toArray, List.set_cons_zero, List.set_cons_succ])
          exact Hs011.out _ _ ⟨W.heap.size, g1, rfl, st2⟩
        exact AllReadyH.nil
      refine wpAnyH_take (i := 0) (v := ?_) rfl (by kernel_rfl) (by kernel_rfl) (by kernel_rfl) (fun _ _ _ h => h) (Or.inl ⟨?_, ?_⟩) (by assumption) ?_
      rotate_left
      · rfl
      · (intro w hSw; have e0 := cell_keep P.out.1.1 hSw; have e1 := cell_keep P.out.1.2 hSw; go_simp; try with_reducible rfl)
      (try simp only [Act.put, List.setIfInBounds_toArray, List.set_cons_zero, List.set_cons_succ])
      refine wpAnyH_take (i := 2) (v := ?_) rfl (by kernel_rfl) (by kernel_rfl) (by kernel_rfl) (fun _ _ _ h => h) (Or.inl ⟨?_, ?_⟩) (by assumption) ?_
      rotate_left
      · rfl
      · (intro w hSw; have e0 := cell_keep P.out.2.1 hSw; have e1 := cell_keep P.out.2.2 hSw; go_simp; try with_reducible rfl)
      (try simp only [Act.put, List.setIfInBounds_toArray, List.set_cons_zero, List.set_cons_succ])
      refine wpAnyH_with 6 #[true, false, true, false, false, false, false, false] (fun a W => a = ⟨#[zv sa (.slice Aa na ca), zv sb (.slice Ab nb cb), .pointer (some ⟨w.heap.size, 0, none⟩), .pointer (some ⟨w.heap.size + 1, 0, none⟩), .bool false, undef, undef, undef, undef, undef, undef, undef, undef, undef, .bool true, .bool false, zv sa (.slice Aa na ca), zv sb (.slice Ab nb cb), .bool false, zv sa (.slice Aa na ca), undef, zv sb (.slice Ab nb cb), undef, undef, undef, undef, undef, undef, undef, undef, undef, undef, undef, undef, undef, undef, undef, undef, undef, undef, undef, undef, undef, undef, undef, undef, undef, undef, undef, undef, undef, undef, undef, undef, undef, undef, undef, undef, undef, undef, undef, undef, undef, undef, undef, undef, undef, undef, undef, undef, undef, undef, undef, undef, undef, undef, undef, undef, undef, undef, undef, undef, undef], []⟩ ∧ Sg w2.drew.heap.size w2.drew W [zblk, zblk] [none, none] (fun W => True)) ?_ (fun Hs => Hs.out _ _ ⟨rfl, Sg.start _ _ 2⟩)
      rintro a W ⟨rfl, st0⟩
      have hHeld := st0.1
      have st := hide st0
      clear st0
      refine wpAnyH_ready (rs := [1, 4, 5]) (by kernel_rfl) (by simp) ?_
      refine AllReadyH.cons rfl (fun K hK => ?_) ?_
      · go_simp
        go_at_call 9
        refine Calls.mono (zcopy_l (L := 12) (R.out.1.step st.out.1) (by omega)) ?_
        rintro e wx ⟨v9, rfl, tx, bx⟩
        obtain ⟨Ax, nx, cx, rfl⟩ := tx.nw.slice
        try dsimp only
        have st2 := Sg.call (G := fun W => Lw W (.slice Ax nx cx) xsa 12) st.out bx Firm2.yes tx
        have hSt := hide st2
        refine hK.out _ _ st2.1 (fun hHeld => ?_)
        clear hK K st2
        (try simp only [Act.put, List.setIfInBounds_toArray, List.set_cons_zero, List.set_cons_succ])
        exact Hs100.out _ _ ⟨Ax, nx, cx, rfl, hSt.out⟩
      refine AllReadyH.cons rfl (fun K hK => ?_) ?_
      · go_simp
        have st2 := Sg.make st.out Firm2.yes 0 _ rfl (by simp)
        refine hK.out _ _ st2.1 (fun hHeld => ?_)
        (try simp only [Act.put, List.setIfInBounds_toArray, List.set_cons_zero, List.set_cons_succ])
        exact Hs010.out _ _ ⟨W.heap.size, rfl, st2⟩
      refine AllReadyH.cons rfl (fun K hK => ?_) ?_
      · go_simp
        have st2 := Sg.make st.out Firm2.yes 1 _ rfl (by simp)
        refine hK.out _ _ st2.1 (fun hHeld => ?_)
        (try simp only [Act.put, List.setIfInBounds_toArray, List.set_cons_zero, List.set_cons_succ])
        exact Hs001.out _ _ ⟨W.heap.size, rfl, st2⟩
      exact AllReadyH.nil
end Go.Proofs.YtgkaijhblgbnhaaDoor
