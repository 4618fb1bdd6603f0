/-
  Shared texts, one behind the other: ElSort, Vec1, Vec2, Vec3, Vec4, Vec5, Vec6, Vec7, Vec8, Rall, Vec9, Vec10.
-/
import Derived.Test.YtpfeacdhplbblaaGreatEl
import Derived.Shelf.SlSortCmp.WholeK
import Derived.Test.YtpfeacdhplbblaaGreatTv
import Derived.Test.YtpfeacdhplbblaaGreatSortLay
import Derived.BigGuardPart
import Derived.BigQuiet
import Derived.Deep.QuietTactic
import Derived.Deep.RegionHeld3
import Derived.Deep.RegionLaw
import Derived.Test.YtpfeacdhplbblaaGreatRatQ5
import Derived.Test.YtpfeacdhplbblaaGreatBundleG

namespace Go.Proofs.YtpfeacdhplbblaaGreat
open Go.RowKit Go.Sort
set_option linter.unusedVariables false
section
variable {α : Type} [Inhabited α] {enc : α → List Value} {k : Nat} {T : TypeId} {w : World} {B : Nat}
end
end Go.Proofs.YtpfeacdhplbblaaGreat

namespace Go.Proofs.YtpfeacdhplbblaaGreat
open Go.RowKit Go.Proofs.YtpfeacdhplbblaaGreat.Num
set_option linter.unusedVariables false
set_option linter.unusedSimpArgs false
set_option maxRecDepth 100000
def Bq (W : World) (g : Nat) (s : Bool) (u t : Value) : Prop := W.heap[g]? = some (rbox s u t)
theorem Bq.new (w : World) (s : Bool) (u t : Value) : Bq (w.alloc (rbox s u t)) w.heap.size s u t := heap_alloc_new w _
theorem Bq.lt {W : World} {g : Nat} {s : Bool} {u t : Value} (h : Bq W g s u t) : g < W.heap.size := by unfold Bq at h; exact (Array.getElem?_eq_some_iff.1 h).1
theorem Bq.step {W W' : World} {g : Nat} {s : Bool} {u t : Value} (h : Bq W g s u t) (hb : Below W.heap.size W W') : Bq W' g s u t := (hb.block g h.lt).trans h
theorem Bq.all {W : World} {g : Nat} {s : Bool} {u t : Value} (h : Bq W g s u t) : W.cell? ⟨g, 0, none⟩ = some (.bool s) ∧ W.cell? ⟨g, 1, none⟩ = some u ∧ W.cell? ⟨g, 2, none⟩ = some t ∧ W.frozen? ⟨g, 0, none⟩ = false ∧ W.frozen? ⟨g, 1, none⟩ = false ∧ W.frozen? ⟨g, 2, none⟩ = false :=
  ⟨cell_of_row W g 0 _ _ _ h, cell_of_row W g 1 _ _ _ h, cell_of_row W g 2 _ _ _ h, frozen_of_row W g 0 _ _ h, frozen_of_row W g 1 _ _ h, frozen_of_row W g 2 _ _ h⟩
theorem Bq.put {W : World} {g : Nat} {s : Bool} {u t : Value} (h : Bq W g s u t) (s' : Bool) (u' t' : Value) : Bq (((W.setCell ⟨g, 0, none⟩ (.bool s')).setCell ⟨g, 1, none⟩ u').setCell ⟨g, 2, none⟩ t') g s' u' t' :=
  heap_setCell_same _ g 2 _ _ t' (heap_setCell_same _ g 1 _ _ u' (heap_setCell_same W g 0 _ _ (.bool s') h))
theorem only_put3 (W : World) (g : Nat) (a b c : Value) : W.grownBy (((W.setCell ⟨g, 0, none⟩ a).setCell ⟨g, 1, none⟩ b).setCell ⟨g, 2, none⟩ c) (some g) :=
  only_set (p := ⟨g, 2, none⟩) (only_set (p := ⟨g, 1, none⟩) (only_set (p := ⟨g, 0, none⟩) (only_refl W (some g)) rfl a) rfl b) rfl c
theorem below_put3 {B : Nat} {w W : World} {g : Nat} (h : Below B w W) (hg : B ≤ g) (a b c : Value) : Below B w (((W.setCell ⟨g, 0, none⟩ a).setCell ⟨g, 1, none⟩ b).setCell ⟨g, 2, none⟩ c) :=
  ((h.setCell hg a).setCell hg b).setCell hg c
theorem nu_of {W : World} {g : Nat} {cs : Array Value} {T : TypeId} {fz : Nat × Nat} (h : W.heap[g]? = some (.cells cs T fz)) (hn : cs.toList.all (fun v => match v with | .int .u64 _ => false | _ => true) = true) : Nu W g :=
  ⟨cs, T, fz, h, fun j z hj => by
    have hm := List.all_eq_true.1 hn _ (Array.mem_toList_iff.2 (Array.mem_of_getElem? hj))
    simp at hm⟩
theorem Rb.nu {W : World} {g : Nat} (h : Rb W g) : Nu W g := nu_of h rfl
theorem rg_put {w0 w : World} {x : Rx} {L g : Nat} (h : Rg w w0.heap.size x L) (hz : Rb w g) (hg0 : w0.heap.size ≤ g) (hb : Below w0.heap.size w0 w) :
    (w.cell? ⟨g, 0, none⟩ = some (.bool false) ∧ w.cell? ⟨g, 1, none⟩ = some (.slice none 0 0) ∧ w.cell? ⟨g, 2, none⟩ = some (.slice none 0 0) ∧
      w.frozen? ⟨g, 0, none⟩ = false ∧ w.frozen? ⟨g, 1, none⟩ = false ∧ w.frozen? ⟨g, 2, none⟩ = false) ∧
      (((w.setCell ⟨g, 0, none⟩ (.bool x.s)).setCell ⟨g, 1, none⟩ (sv x.u)).setCell ⟨g, 2, none⟩ (sv x.t)).heap[g]? = some (.cells #[.bool x.s, sv x.u, sv x.t] 36 (0, 0)) ∧
        RgRet w0 x.r L (.returned (rx x)) (((w.setCell ⟨g, 0, none⟩ (.bool x.s)).setCell ⟨g, 1, none⟩ (sv x.u)).setCell ⟨g, 2, none⟩ (sv x.t)) :=
  ⟨⟨hz.c0, hz.c1, hz.c2, hz.fz 0, hz.fz 1, hz.fz 2⟩, hz.set _ _ _, x, rfl, rfl, h.grown (only_put3 w g _ _ _) hz.nu, below_put3 hb hg0 _ _ _⟩
theorem len_of {α : Type} {d : List α} {k : Nat} (h : k < d.length) : ∃ x, d[k]? = some x := ⟨d[k], List.getElem?_eq_getElem h⟩
theorem isnan_i (x : Int) (w : World) : Calls Tryz.prog 91 #[.int .i64 x] w fun e w' => e = .returned (.bool false) ∧ w' = w := by
  have t : (x != x) = false := by simp
  go_enter Tryz.func91, Tryz.ntmps91
  go_wp2_with fail
  go_ret
  exact ⟨rfl, rfl⟩
theorem compare_i (x y : Int) (w : World) : Calls Tryz.prog 59 #[.int .i64 x, .int .i64 y] w fun e w' => e = .returned (.int .i64 (Go.Lib.compareInt x y)) ∧ w' = w := by
  have t1 : (decide (x < y) = true ∧ Go.Lib.compareInt x y = -1) ∨ (decide (x < y) = false ∧ ((decide (y < x) = true ∧ Go.Lib.compareInt x y = 1) ∨ (decide (y < x) = false ∧ Go.Lib.compareInt x y = 0))) := by
    unfold Go.Lib.compareInt
    by_cases h1 : x < y
    · exact .inl ⟨decide_eq_true h1, if_pos h1⟩
    · by_cases h2 : y < x
      · exact .inr ⟨decide_eq_false h1, .inl ⟨decide_eq_true h2, by rw [if_neg h1, if_pos h2]⟩⟩
      · exact .inr ⟨decide_eq_false h1, .inr ⟨decide_eq_false h2, by rw [if_neg h1, if_neg h2]⟩⟩
  generalize Go.Lib.compareInt x y = r at *
  go_enter Tryz.func59, Tryz.ntmps59
  go_wp2_with fail
  refine (isnan_i x w).mono ?_
  rintro e _ ⟨rfl, rfl⟩
  go_wp2_with fail
  refine (isnan_i y _).mono ?_
  rintro e _ ⟨rfl, rfl⟩
  rcases t1 with ⟨t1, rfl⟩ | ⟨t1, ⟨t2, rfl⟩ | ⟨t2, rfl⟩⟩
  · go_wp2_with fail
    go_ret
    exact ⟨rfl, rfl⟩
  · go_wp2_with fail
    go_ret
    exact ⟨rfl, rfl⟩
  · go_wp2_with fail
    go_ret
    exact ⟨rfl, rfl⟩
theorem rv_sl {α : Type} {W : World} {v : Value} {enc : α → List Value} {k : Nat} {d : List α} (h : Lr enc k W v d) : ∃ A n c, v = .slice A n c := by
  obtain ⟨A, c, rfl, _⟩ := h
  exact ⟨_, _, _, rfl⟩
theorem Ra.words {W : World} {x : Rx} {r : Rat} {L : Nat} (h : Ra W (rx x) r L) : (∃ a, Nw W (sv x.u) a L) ∧ (∃ b, Nw W (sv x.t) b L) ∧ x.u.2.1 ≤ L ∧ x.t.2.1 ≤ L := by
  obtain ⟨s, u, t, a, b, e, h1, h2, h3⟩ := h
  injection e with e
  have e3 := congrArg Array.toList e
  simp at e3
  obtain ⟨e4, rfl, rfl⟩ := e3
  refine ⟨⟨a, h1⟩, ⟨b, h2⟩, ?_, ?_⟩
  · obtain ⟨A, n, c, xs, e, g1, g2, g3, g4, g5, g6⟩ := h1
    injection e with e5 e6 e7
    omega
  · obtain ⟨A, n, c, xs, e, g1, g2, g3, g4, g5, g6⟩ := h2
    injection e with e5 e6 e7
    omega
theorem Ra.tight {W : World} {x : Rx} {r : Rat} {L M : Nat} (h : Ra W (rx x) r L) (hu : x.u.2.1 ≤ M) (ht : x.t.2.1 ≤ M) : Ra W (rx x) r M := by
  obtain ⟨s, u, t, a, b, e, h1, h2, h3⟩ := h
  injection e with e
  have e3 := congrArg Array.toList e
  simp at e3
  obtain ⟨e4, rfl, rfl⟩ := e3
  subst e4
  refine ⟨_, _, _, a, b, rfl, ?_, ?_, h3⟩
  · obtain ⟨A, n, c, xs, e, g1, g2, g3, g4, g5, g6⟩ := h1
    injection e with e5 e6 e7
    exact ⟨A, n, c, xs, by rw [← e5, ← e6, ← e7], g1, g2, g3, g4, g5, by omega⟩
  · obtain ⟨A, n, c, xs, e, g1, g2, g3, g4, g5, g6⟩ := h2
    injection e with e5 e6 e7
    exact ⟨A, n, c, xs, by rw [← e5, ← e6, ← e7], g1, g2, g3, g4, g5, by omega⟩
theorem words_x {W : World} {x : Rx} {r : Rat} {L : Nat} (h : Ra W (rx x) r L) (hL : L ≤ 17592186044000) :
    Calls Tryz.prog 6 #[rx x] W fun e w' => e = .returned (.int .i64 ((x.u.2.1 + x.t.2.1 : Nat) : Int)) ∧ Below W.heap.size W w' :=
  rwords_any (by have := h.words.2.2.1; omega) (by have := h.words.2.2.2; omega)
theorem RRet.rx {w : World} {r : Rat} {L : Nat} {e : Ending} {w' : World} (h : RRet w r L e w') : ∃ x : Rx, e = .returned (rx x) ∧ x.r = r ∧ Rc w' (rx x) x.r L ∧ Below w.heap.size w w' := by
  obtain ⟨v, rfl, hc, hb⟩ := h
  obtain ⟨s, A, n, c, D, m, d, rfl, hc⟩ := hc.parts
  exact ⟨⟨s, (A, n, c), (D, m, d), r⟩, rfl, rfl, hc, hb⟩
set_option maxHeartbeats 4000000 in
theorem rqsmall_any (w : World) (z : Int) (h1 : -9223372036854775808 ≤ z) (h2 : z ≤ 9223372036854775807) :
    Calls Tryz.prog 38 #[.int .i64 z] w (RfRet w (z : Rat) 6) := by
  have b1 := (Below.refl w.heap.size w).alloc (Nat.le_refl _) fqblk
  have HB := hide b1
  have HZ := hide (Fb.new w)
  clear b1
  go_enter Tryz.func38, Tryz.ntmps38
  go_wp2_with fail
  refine (qsmall_any (w.alloc fqblk) z h1 h2).mono ?_
  rintro e w1 ⟨v, rfl, z1, bx⟩
  obtain ⟨s, x, A, n, c, rfl, hu, hz, -⟩ := z1.parts
  have B1 := hide (Below.step HB.out HB.out.size bx)
  have Z1 := hide (HZ.out.step bx)
  have b2 := (Below.refl w1.heap.size w1).alloc (Nat.le_refl _) (.cells #[.int .i64 1] 3)
  have B2 := hide (Below.step B1.out B1.out.size b2)
  have Z2 := hide (Z1.out.step b2)
  have LC := hide (lowest_any (s := s) (hu.step b2) (ic_one w1 (L := 6) (by omega)) (by omega) (by omega) (by omega))
  have hq : mkRat (zi s x) 1 = (z : Rat) := by rw [hz, Rat.mkRat_one]
  rw [hq] at LC
  clear bx hu hz b2 hq B1 Z1 HB HZ
  go_wp2_with fail
  refine LC.out.mono ?_
  rintro e w2 ⟨v, rfl, c1, b1⟩
  obtain ⟨sg, A1, n1, c1', D1, m1, d1, rfl, c2⟩ := c1.parts
  obtain ⟨k0, k1, k2, f0, f1, f2, fin⟩ := rf_put (w0 := w) c2 (Z2.out.step b1) (by omega) (Below.step B2.out B2.out.size b1)
  have F := hide fin
  clear fin LC b1 c1 c2 Z2 B2
  go_wp2_with fail
  exact bodyPost_ret (rfret rfl _ _ _ #[.bool sg, .slice A1 n1 c1', .slice D1 m1 d1] rfl rfl F.out.1) rfl F.out.2
theorem alloc_below (W : World) (o : Obj) : Below W.heap.size W (W.alloc o) := (Below.refl _ _).alloc (Nat.le_refl _) _
end Go.Proofs.YtpfeacdhplbblaaGreat
