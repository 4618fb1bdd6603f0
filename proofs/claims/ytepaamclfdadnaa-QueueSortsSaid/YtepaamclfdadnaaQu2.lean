
/-
 Queues: two nodes change their places.
-/
import Derived.Test.YtepaamclfdadnaaQu1
import Derived.Test.YtepaamclfdadnaaBundleO
import Derived.BigRegion


namespace Go.Proofs.Ytepaamclfdadnaa
open Go.RowKit Go.Proofs.Ytepaamclfdadnaa.Num
set_option linter.unusedVariables false
set_option linter.unusedSimpArgs false
set_option maxRecDepth 100000
set_option maxHeartbeats 16000000 in
theorem qswap_c {w : World} {B g i j M : Nat} {o : Int} {v : Sl} {l : List Nx} {x y : Nx} (hq : Qo w B g o v l M) (hi : l[i]? = some x) (hj : l[j]? = some y) (hne : i ≠ j) :
  Calls Try.prog 24 #[.pointer (some ⟨g, 0, none⟩), .int .i64 (i : Int), .int .i64 (j : Int)] w fun e w' => e = .returned (.tuple #[]) ∧ Qo w' B g o v (swp l i j x y) M ∧ Efq w w' B g v v := by
 obtain ⟨a, c, rfl, hB, hlt, hl1, hl2, hag⟩ := hq.form hi
 have hil := (List.getElem?_eq_some_iff.1 hi).1
 have hjl := (List.getElem?_eq_some_iff.1 hj).1
 have sw := hq.swap hi hj hne
 have FN := hide (sw.1.step (Below.refl _ _).drew)
 have EF := hide (sw.2.step (Below.refl _ _).drew (Nat.le_trans (Nat.le_of_lt (Nat.lt_of_le_of_lt hB hlt)) sw.2.1.size))
 clear sw
 obtain ⟨x0, x1, x2, x3, x4⟩ := Ow.cellsN hq.2.2.1 hi
 obtain ⟨y0, y1, y2, y3, y4⟩ := Ow.cellsN hq.2.2.1 hj
 have q1 : w.cell? ⟨g, 1, none⟩ = some (.slice (some ⟨a, 0, none⟩) l.length c) := hq.1.c
 have fz : ∀ k, w.frozen? ⟨a, k, none⟩ = false := fun k => hq.2.2.1.frozen rfl k
 have f0 := fz (i * 5)
 have f1 := fz (i * 5 + 1)
 have f2 := fz (i * 5 + 2)
 have f3 := fz (i * 5 + 3)
 have f4 := fz (i * 5 + 4)
 have g0 := fz (j * 5)
 have g1 := fz (j * 5 + 1)
 have g2 := fz (j * 5 + 2)
 have g3 := fz (j * 5 + 3)
 have g4 := fz (j * 5 + 4)
 have i1 : (0 : Int) ≤ (i : Int) := by omega
 have i2 : (i : Int) < (l.length : Int) := by omega
 have j1 : (0 : Int) ≤ (j : Int) := by omega
 have j2 : (j : Int) < (l.length : Int) := by omega
 clear hq hi hj fz
 generalize l.length = n at *
 go_enter Try.func24, Try.ntmps24
 go_wp2_with fail
 go_region
 all_goals
  go_end0
  exact ⟨rfl, FN.out, EF.out⟩
end Go.Proofs.Ytepaamclfdadnaa
