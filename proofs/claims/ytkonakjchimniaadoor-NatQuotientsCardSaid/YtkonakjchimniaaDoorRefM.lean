/-
  The document's greatest common divisor.
-/
import Derived.Test.YtkonakjchimniaaDoorRefJ
import Derived.Deep.LoopGhost
namespace Go.Proofs.YtkonakjchimniaaDoor
open Go.RowKit Go.Proofs.YtkonakjchimniaaDoor.Num
set_option linter.unusedVariables false
set_option maxRecDepth 100000

def RgRel (t : TypeId) (w : World) (G L : Nat) (gk : Nat) (xv yv : Value) (wr : World) : Prop :=
  ∃ X : Nat, Own .i64 t wr w.heap.size xv (cn 10000 X) ∧ Own .i64 t wr w.heap.size yv (cn 10000 gk) ∧ Hid (Nat.gcd X gk = G) ∧ Hid (X < 10000 ^ L) ∧ Hid (gk < 10000 ^ L) ∧ Below w.heap.size w wr

set_option maxHeartbeats 4000000 in
theorem igcd {w : World} {u v : Value} {x y L : Nat} (hu : Iw w u x L) (hv : Iw w v y L) (hL : L ≤ 100000000000) :
    Calls Tryd.prog 18 #[u, v] w (INew w (Nat.gcd x y) L) := by
  have hxL := hu.lt
  have hyL := hv.lt
  have hGL : Nat.gcd x y < 10000 ^ L := by
    rcases Nat.eq_zero_or_pos x with h | h
    · subst h; rw [Nat.gcd_zero_left]; exact hyL
    · exact Nat.lt_of_le_of_lt (Nat.gcd_le_left _ h) hxL
  obtain ⟨G, hG⟩ : ∃ G, Hid (Nat.gcd x y = G) := ⟨_, hide rfl⟩
  rw [hG.out] at hGL ⊢
  have HGL := hide hGL
  have HX := hide hxL
  have HY := hide hyL
  have V := hide hv
  have U := hide hu
  clear hu hv hxL hyL hGL
  go_enter Tryd.func18, Tryd.ntmps18
  go_wp2_with fail
  refine (itrim U.out (by omega)).mono ?_
  rintro e w1 ⟨xv, rfl, ox, -, b1⟩
  have V := hide (V.out.step b1)
  have B := hide b1
  have OX := hide ox
  clear ox b1 U
  go_wp2_with fail
  refine (itrim V.out (by omega)).mono ?_
  rintro e w2 ⟨yv, rfl, oy, -, b2⟩
  have start : RgRel 3 w G L y xv yv w2 :=
    ⟨x, OX.out.below b2 (Nat.le_refl _), oy.mono B.out.size, hG, HX, HY, B.out.trans (b2.mono B.out.size)⟩
  clear V B OX oy b2
  go_wp2_with fail
  go_loopg [5, 6] y (fun gk xv yv wr => RgRel 3 w G L gk xv yv wr)
  case atStart => exact start
  case round =>
    clear start
    obtain ⟨X, ox, oy, hg, hX, hY, hbel⟩ := hrel
    have cx := Ic.of ox hX.out
    have cy := Ic.of oy hY.out
    by_cases h0 : gk = 0
    · subst h0
      obtain ⟨A, c, hyv, _, _⟩ := cy
      rw [cn_zero, List.length_nil] at hyv
      subst hyv
      have e := hg.out
      rw [Nat.gcd_zero_right] at e
      rw [e] at ox
      have fin : INew w G L (.returned u5) wr := ⟨_, rfl, ox, Ic.of ox HGL.out, hbel⟩
      clear cx hg hX hY HX HY HGL hG oy ox
      go_wp2_with fail
      go_ret
      exact fin
    · obtain ⟨A, c, hyv, _, _⟩ := id cy
      have hpos : 0 < (cn 10000 gk).length := List.length_pos_iff.2 (fun h => h0 ((cn_eq_nil B_two).1 h))
      have dm := hide (idivmod cx cy.iw (Nat.pos_of_ne_zero h0) hL hL)
      have hlt : Hid (X % gk < gk) := hide (Nat.mod_lt _ (Nat.pos_of_ne_zero h0))
      have hg2 : Hid (Nat.gcd gk (X % gk) = G) := hide (by rw [← hg.out, Nat.gcd_comm X gk, Nat.gcd_comm gk (X % gk), ← Nat.gcd_rec gk X])
      have OY := hide oy
      have HB := hide hbel
      subst hyv
      generalize (cn 10000 gk).length = ly at *
      clear cx cy hg ox oy hbel
      go_wp2_with fail
      refine dm.out.mono ?_
      rintro e w3 ⟨q, r, rfl, -, orr, -, cr, b3⟩
      have fin : RgRel 3 w G L (X % gk) (.slice A ly c) r w3 :=
        ⟨gk, OY.out.below b3 (Nat.le_refl _), orr.mono HB.out.size, hg2, hY, hide (Nat.lt_trans hlt.out hY.out), HB.out.trans (b3.mono HB.out.size)⟩
      clear orr cr b3 OY HB dm hg2
      go_wp2_with fail
      go_roundg (X % gk)
      case rel => exact fin
      case measure => exact hlt.out
end Go.Proofs.YtkonakjchimniaaDoor
