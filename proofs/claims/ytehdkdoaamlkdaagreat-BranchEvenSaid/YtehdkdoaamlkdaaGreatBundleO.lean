/-
  Shared texts, one behind the other: ElSort, Vec1, Vec2, Vec3, Vec4, Vec5, Vec6, Vec7, Vec8, Rall, Vec9, Vec10.
-/
import Derived.Test.YtehdkdoaamlkdaaGreatEl
import Derived.Shelf.SlSortCmp.WholeK
import Derived.Test.YtehdkdoaamlkdaaGreatTv
import Derived.Test.YtehdkdoaamlkdaaGreatSortLay
import Derived.BigGuardPart
import Derived.BigQuiet
import Derived.Deep.QuietTactic
import Derived.Deep.RegionHeld3
import Derived.Deep.RegionLaw
import Derived.Test.YtehdkdoaamlkdaaGreatRatQ5
import Derived.Test.YtehdkdoaamlkdaaGreatBundleG

namespace Go.Proofs.YtehdkdoaamlkdaaGreat
open Go.RowKit Go.Sort
set_option linter.unusedVariables false
section
variable {α : Type} [Inhabited α] {enc : α → List Value} {k : Nat} {T : TypeId} {w : World} {B : Nat}
end
end Go.Proofs.YtehdkdoaamlkdaaGreat

namespace Go.Proofs.YtehdkdoaamlkdaaGreat
open Go.RowKit Go.Proofs.YtehdkdoaamlkdaaGreat.Num
set_option linter.unusedVariables false
set_option linter.unusedSimpArgs false
set_option maxRecDepth 100000
theorem RoRet.rg {w : World} {r : Rat} {L : Nat} {e : Ending} {w' : World} (h : RoRet w r L e w') (h1 : 1 ≤ L) : RgRet w r L e w' := by
 obtain ⟨s, u, t, he, hc, o⟩ := id h
 exact RgRet.of h (hc.ra.sz h1)
set_option maxHeartbeats 2000000 in
theorem whole_o (w : World) (z : Int) (h1 : -9223372036854775808 ≤ z) (h2 : z ≤ 9223372036854775807) :
  Calls Tryz.prog 69 #[.int .i64 z] w (RgRet w (z : Rat) 1) := by
 have HB := hide ((Below.refl w.heap.size w).alloc (Nat.le_refl _) rblk)
 have HZ := hide (Rb.new w)
 go_enter Tryz.func69, Tryz.ntmps69
 go_wp2_with fail
 refine (zof_any (w.alloc rblk) z h1 h2).mono ?_
 rintro e w1 ⟨v, rfl, z1, b1⟩
 have B1 := hide (Below.step HB.out HB.out.size b1)
 have RC := hide (ofint_own (Zi.za z1) (Nat.le_refl 1) (by omega))
 have Z1 := hide (HZ.out.step b1)
 clear z1 b1 HB HZ
 go_wp2_with fail
 refine RC.out.mono ?_
 rintro e w2 ⟨sg, u, t, rfl, c2, o1, o2, dj, b2⟩
 obtain ⟨A1, n1, c1', rfl⟩ := o1.slice
 obtain ⟨D1, m1, d1, rfl⟩ := o2.slice
 obtain ⟨k0, k1, k2, f0, f1, f2, fin⟩ := rr_put_o (w0 := w) c2 (o1.mono B1.out.size) (o2.mono B1.out.size) dj (Z1.out.step b2) (by omega) (Below.step B1.out B1.out.size b2)
 have F := hide fin
 clear fin RC c2 b2 Z1 B1 o1 o2 dj
 go_wp2_with fail
 exact bodyPost_ret (rret rfl _ _ _ #[.bool sg, .slice A1 n1 c1', .slice D1 m1 d1] rfl rfl F.out.1) rfl (F.out.2.rg (Nat.le_refl 1))
def Bq (W : World) (g : Nat) (s : Bool) (u t : Value) : Prop := W.heap[g]? = some (rbox s u t)
theorem Bq.new (w : World) (s : Bool) (u t : Value) : Bq (w.alloc (rbox s u t)) w.heap.size s u t := heap_alloc_new w _
theorem Bq.lt {W : World} {g : Nat} {s : Bool} {u t : Value} (h : Bq W g s u t) : g < W.heap.size := by unfold Bq at h; exact (Array.getElem?_eq_some_iff.1 h).1
theorem Bq.step {W W' : World} {g : Nat} {s : Bool} {u t : Value} (h : Bq W g s u t) (hb : Below W.heap.size W W') : Bq W' g s u t := (hb.block g h.lt).trans h
theorem Bq.all {W : World} {g : Nat} {s : Bool} {u t : Value} (h : Bq W g s u t) : W.cell? ⟨g, 0, none⟩ = some (.bool s) ∧ W.cell? ⟨g, 1, none⟩ = some u ∧ W.cell? ⟨g, 2, none⟩ = some t ∧ W.frozen? ⟨g, 0, none⟩ = false ∧ W.frozen? ⟨g, 1, none⟩ = false ∧ W.frozen? ⟨g, 2, none⟩ = false :=
 ⟨cell_of_row W g 0 _ _ _ h, cell_of_row W g 1 _ _ _ h, cell_of_row W g 2 _ _ _ h, frozen_of_row W g 0 _ _ h, frozen_of_row W g 1 _ _ h, frozen_of_row W g 2 _ _ h⟩
theorem Bq.put {W : World} {g : Nat} {s : Bool} {u t : Value} (h : Bq W g s u t) (s' : Bool) (u' t' : Value) : Bq (((W.setCell ⟨g, 0, none⟩ (.bool s')).setCell ⟨g, 1, none⟩ u').setCell ⟨g, 2, none⟩ t') g s' u' t' :=
 heap_setCell_same _ g 2 _ _ t' (heap_setCell_same _ g 1 _ _ u' (heap_setCell_same W g 0 _ _ (.bool s') h))
theorem only_put3 (W : World) (g : Nat) (a b c : Value) : W.grownBy (((W.setCell ⟨g, 0, none⟩ a).setCell ⟨g, 1, none⟩ b).setCell ⟨g, 2, none⟩ c) (some g) :=
 only_set (p := ⟨g, 2, none⟩) (only_set (p := ⟨g, 1, none⟩) (only_set (p := ⟨g, 0, none⟩) (only_refl W (some g)) rfl a) rfl b) rfl c
theorem below_put3 {B : Nat} {w W : World} {g : Nat} (h : Below B w W) (hg : B ≤ g) (a b c : Value) : Below B w (((W.setCell ⟨g, 0, none⟩ a).setCell ⟨g, 1, none⟩ b).setCell ⟨g, 2, none⟩ c) :=
 ((h.setCell hg a).setCell hg b).setCell hg c
theorem nu_of {W : World} {g : Nat} {cs : Array Value} {T : TypeId} {fz : Nat × Nat} (h : W.heap[g]? = some (.cells cs T fz)) (hn : cs.toList.all (fun v => match v with | .int .u64 _ => false | _ => true) = true) : Nu W g :=
 ⟨cs, T, fz, h, fun j z hj => by
  have hm := List.all_eq_true.1 hn _ (Array.mem_toList_iff.2 (Array.mem_of_getElem? hj))
  simp at hm⟩
theorem Bq.nu {W : World} {g : Nat} {s : Bool} {A D : Option Addr} {n c m d : Nat} (h : Bq W g s (.slice A n c) (.slice D m d)) : Nu W g := nu_of h rfl
theorem Rb.nu {W : World} {g : Nat} (h : Rb W g) : Nu W g := nu_of h rfl
theorem Rb.put {W : World} {g : Nat} (h : Rb W g) (s' : Bool) (u' t' : Value) : Bq (((W.setCell ⟨g, 0, none⟩ (.bool s')).setCell ⟨g, 1, none⟩ u').setCell ⟨g, 2, none⟩ t') g s' u' t' := h.set _ _ _
theorem Rb.other {W : World} {g h : Nat} (z : Rb W h) (hne : h ≠ g) (a b c : Value) : Rb (((W.setCell ⟨g, 0, none⟩ a).setCell ⟨g, 1, none⟩ b).setCell ⟨g, 2, none⟩ c) h :=
 ((Below.heap_setCell _ _ c h hne).trans ((Below.heap_setCell _ _ b h hne).trans (Below.heap_setCell _ _ a h hne))).trans z
theorem len_of {α : Type} {d : List α} {k : Nat} (h : k < d.length) : ∃ x, d[k]? = some x := ⟨d[k], List.getElem?_eq_getElem h⟩
theorem ra_zero (W : World) (L : Nat) : Ra W (rv false (.slice none 0 0) (.slice none 0 0)) 0 L := by
 have h : Nw W (.slice none 0 0) 0 L := ⟨none, 0, 0, [], rfl, Rd.nil, Dg.nil, Nat.le_refl _, by simp [maxLen], rfl, Nat.zero_le _⟩
 exact ⟨false, _, _, 0, 0, rfl, h, h, by simp [zi]⟩
theorem rv_sl {α : Type} {W : World} {v : Value} {enc : α → List Value} {k : Nat} {d : List α} (h : Lr enc k W v d) : ∃ A n c, v = .slice A n c := by
 obtain ⟨A, c, rfl, _⟩ := h
 exact ⟨_, _, _, rfl⟩
theorem light_c {w : World} {A : Option Addr} {n c x L : Nat} (h : Nw w (.slice A n c) x L) (hn : n ≤ 1000000000000000000) :
  Calls Tryz.prog 40 #[.slice A n c] w fun e w' => ∃ b : Bool, e = .returned (.bool b) ∧ Below w.heap.size w w' := by
 by_cases h0 : n = 0
 ·subst h0
  have t0 : ((((0 : Nat) : Int)) == 0) = true := rfl
  go_enter Tryz.func40, Tryz.ntmps40
  go_wp2_with fail
  go_ret
  exact ⟨_, rfl, Below.refl _ _⟩
 ·have t0 : ((n : Int) == 0) = false := beq_eq_false_iff_ne.2 (by omega)
  by_cases h1 : n = 1
  ·subst h1
   have t1 : ((((1 : Nat) : Int)) == 1) = true := rfl
   obtain ⟨A', n', c', xs, e, hr, h2⟩ := h
   cases e
   obtain ⟨b, off, rfl, hb, hc⟩ := hr.at_ (show 0 < 1 by omega)
   rw [Nat.add_zero] at hc
   clear hr h2
   go_enter Tryz.func40, Tryz.ntmps40
   go_wp2_with fail
   go_ret
   exact ⟨_, rfl, Below.refl _ _⟩
  ·have t1 : ((n : Int) == 1) = false := beq_eq_false_iff_ne.2 (by omega)
   clear h
   go_enter Tryz.func40, Tryz.ntmps40
   go_wp2_with fail
   go_ret
   exact ⟨_, rfl, Below.refl _ _⟩
theorem Ra.words {W : World} {x : Rx} {r : Rat} {L : Nat} (h : Ra W (rx x) r L) : (∃ a, Nw W (sv x.u) a L) ∧ (∃ b, Nw W (sv x.t) b L) ∧ x.u.2.1 ≤ L ∧ x.t.2.1 ≤ L := by
 obtain ⟨s, u, t, a, b, e, h1, h2, h3⟩ := h
 injection e with e
 have e3 := congrArg Array.toList e
 simp at e3
 obtain ⟨e4, rfl, rfl⟩ := e3
 refine ⟨⟨a, h1⟩, ⟨b, h2⟩, ?_, ?_⟩
 ·obtain ⟨A, n, c, xs, e, g1, g2, g3, g4, g5, g6⟩ := h1
  injection e with e5 e6 e7
  omega
 ·obtain ⟨A, n, c, xs, e, g1, g2, g3, g4, g5, g6⟩ := h2
  injection e with e5 e6 e7
  omega
theorem Ra.tight {W : World} {x : Rx} {r : Rat} {L M : Nat} (h : Ra W (rx x) r L) (hu : x.u.2.1 ≤ M) (ht : x.t.2.1 ≤ M) : Ra W (rx x) r M := by
 obtain ⟨s, u, t, a, b, e, h1, h2, h3⟩ := h
 injection e with e
 have e3 := congrArg Array.toList e
 simp at e3
 obtain ⟨e4, rfl, rfl⟩ := e3
 subst e4
 refine ⟨_, _, _, a, b, rfl, ?_, ?_, h3⟩
 ·obtain ⟨A, n, c, xs, e, g1, g2, g3, g4, g5, g6⟩ := h1
  injection e with e5 e6 e7
  exact ⟨A, n, c, xs, by rw [← e5, ← e6, ← e7], g1, g2, g3, g4, g5, by omega⟩
 ·obtain ⟨A, n, c, xs, e, g1, g2, g3, g4, g5, g6⟩ := h2
  injection e with e5 e6 e7
  exact ⟨A, n, c, xs, by rw [← e5, ← e6, ← e7], g1, g2, g3, g4, g5, by omega⟩
theorem words_x {W : World} {x : Rx} {r : Rat} {L : Nat} (h : Ra W (rx x) r L) (hL : L ≤ 17592186044000) :
  Calls Tryz.prog 11 #[rx x] W fun e w' => e = .returned (.int .i64 ((x.u.2.1 + x.t.2.1 : Nat) : Int)) ∧ Below W.heap.size W w' :=
 rwords_any (by have := h.words.2.2.1; omega) (by have := h.words.2.2.2; omega)
set_option maxHeartbeats 4000000 in
theorem weight_c {w : World} {v : Value} {d : List Rx} {L : Nat} (hv : Fv w v d L) (hL : L ≤ 17592186044000) :
  Calls Tryz.prog 19 #[v] w fun e w' => ∃ z : Int, e = .returned (.int .i64 z) ∧ Below w.heap.size w w' := by
 obtain ⟨A, c, e1, hc1, hc2, hc3⟩ := id hv.1
 obtain ⟨n, hlen⟩ : ∃ n, n = d.length := ⟨_, rfl⟩
 rw [← hlen] at e1 hc1
 subst e1
 have HV := hide hv
 have HN := hide hlen
 unfold maxLen at hc2
 clear hv hc3 hlen
 go_enter Tryz.func19, Tryz.ntmps19
 go_wp2_with fail
 go_loopw [3, 4] (fun zv iv wr => ∃ (k : Nat) (z : Int), k ≤ n ∧ iv = .int .i64 (k : Int) ∧ zv = .int .i64 z ∧ Hid (Below w.heap.size w wr)) (fun _ iv _ => n - (intOf iv).toNat)
 case atStart => exact ⟨0, 0, Nat.zero_le _, rfl, rfl, hide (Below.refl _ _)⟩
 case round =>
  obtain ⟨k, z, hk, rfl, rfl, B⟩ := hrel
  by_cases hlt : k < n
  ·obtain ⟨x, hx⟩ := len_of (d := d) (k := k) (by rw [← HN.out]; exact hlt)
   have RX := hide ((HV.out.2 x (List.mem_of_getElem? hx)).step B.out)
   have F := hide (HV.out.step B.out)
   obtain ⟨b, off, rfl, hb, hc⟩ := F.out.1.get hx
   have HX := hide hx
   obtain ⟨⟨a, wa⟩, ⟨b', wb⟩, wl1, wl2⟩ := RX.out.words
   have c0 := hc 0 _ rfl
   have c1 := hc 1 _ rfl
   have c2 := hc 2 _ rfl
   rw [Nat.add_zero] at c0
   have WA := hide (light_c wa (by omega))
   have WB := hide wb
   have l0 : (0 : Int) ≤ (k : Int) := by omega
   have l1 : (k : Int) < (n : Int) := by omega
   clear hc hb hx wa wb
   go_wp2_with fail
   refine WA.out.mono ?_
   rintro e w1 ⟨p, rfl, bx⟩
   have B1 := hide (Below.step B.out B.out.size bx)
   obtain ⟨b2, off2, e2, hb2, hc2'⟩ := (F.out.1.step bx).get HX.out
   injection e2 with e2
   injection e2 with e3 e4
   subst e3 e4
   have c0 := hc2' 0 _ rfl
   have c1 := hc2' 1 _ rfl
   have c2 := hc2' 2 _ rfl
   rw [Nat.add_zero] at c0
   have WB1 := hide (light_c (WB.out.step bx) (by omega))
   have RX1 := hide (RX.out.step bx)
   have F1 := hide (F.out.step bx)
   clear bx hb2 hc2' B F RX WA WB
   cases p with
   | false =>
    go_wp2_with fail
    refine (words_x RX1.out (by omega)).mono ?_
    rintro e w2 ⟨rfl, bx⟩
    have B2 := hide (Below.step B1.out B1.out.size bx)
    clear bx
    go_wp2_with fail
    exact ⟨⟨k + 1, _, by omega, by go_num, rfl, B2⟩, by simp [intOf]; omega⟩
   | true =>
    go_wp2_with fail
    refine WB1.out.mono ?_
    rintro e w2 ⟨q, rfl, bx⟩
    have B2 := hide (Below.step B1.out B1.out.size bx)
    obtain ⟨b2, off2, e2, hb2, hc2'⟩ := (F1.out.1.step bx).get HX.out
    injection e2 with e2
    injection e2 with e3 e4
    subst e3 e4
    have c0 := hc2' 0 _ rfl
    have c1 := hc2' 1 _ rfl
    have c2 := hc2' 2 _ rfl
    rw [Nat.add_zero] at c0
    have RX2 := hide (RX1.out.step bx)
    clear bx hb2 hc2' F1 RX1 WB1 B1
    cases q with
    | false =>
     go_wp2_with fail
     refine (words_x RX2.out (by omega)).mono ?_
     rintro e w2 ⟨rfl, bx⟩
     have B3 := hide (Below.step B2.out B2.out.size bx)
     clear bx
     go_wp2_with fail
     exact ⟨⟨k + 1, _, by omega, by go_num, rfl, B3⟩, by simp [intOf]; omega⟩
    | true =>
     go_wp2_with fail
     exact ⟨⟨k + 1, z, by omega, by go_num, rfl, B2⟩, by simp [intOf]; omega⟩
  ·obtain rfl : k = n := by omega
   go_wp2_with fail
   go_ret
   exact ⟨z, rfl, B.out⟩
theorem RRet.rx {w : World} {r : Rat} {L : Nat} {e : Ending} {w' : World} (h : RRet w r L e w') : ∃ x : Rx, e = .returned (rx x) ∧ x.r = r ∧ Rc w' (rx x) x.r L ∧ Below w.heap.size w w' := by
 obtain ⟨v, rfl, hc, hb⟩ := h
 obtain ⟨s, A, n, c, D, m, d, rfl, hc⟩ := hc.parts
 exact ⟨⟨s, (A, n, c), (D, m, d), r⟩, rfl, rfl, hc, hb⟩
set_option maxHeartbeats 4000000 in
theorem rqsmall_any (w : World) (z : Int) (h1 : -9223372036854775808 ≤ z) (h2 : z ≤ 9223372036854775807) :
  Calls Tryz.prog 14 #[.int .i64 z] w (RfRet w (z : Rat) 6) := by
 have b1 := (Below.refl w.heap.size w).alloc (Nat.le_refl _) fqblk
 have HB := hide b1
 have HZ := hide (Fb.new w)
 clear b1
 go_enter Tryz.func14, Tryz.ntmps14
 go_wp2_with fail
 refine (qsmall_any (w.alloc fqblk) z h1 h2).mono ?_
 rintro e w1 ⟨v, rfl, z1, bx⟩
 obtain ⟨s, x, A, n, c, rfl, hu, hz, -⟩ := z1.parts
 have B1 := hide (Below.step HB.out HB.out.size bx)
 have Z1 := hide (HZ.out.step bx)
 have b2 := (Below.refl w1.heap.size w1).alloc (Nat.le_refl _) (.cells #[.int .i64 1] 3)
 have B2 := hide (Below.step B1.out B1.out.size b2)
 have Z2 := hide (Z1.out.step b2)
 have LC := hide (lowest_any (s := s) (hu.step b2) (ic_one w1 (L := 6) (by omega)) (by omega) (by omega) (by omega))
 have hq : mkRat (zi s x) 1 = (z : Rat) := by rw [hz, Rat.mkRat_one]
 rw [hq] at LC
 clear bx hu hz b2 hq B1 Z1 HB HZ
 go_wp2_with fail
 refine LC.out.mono ?_
 rintro e w2 ⟨v, rfl, c1, b1⟩
 obtain ⟨sg, A1, n1, c1', D1, m1, d1, rfl, c2⟩ := c1.parts
 obtain ⟨k0, k1, k2, f0, f1, f2, fin⟩ := rf_put (w0 := w) c2 (Z2.out.step b1) (by omega) (Below.step B2.out B2.out.size b1)
 have F := hide fin
 clear fin LC b1 c1 c2 Z2 B2
 go_wp2_with fail
 exact bodyPost_ret (rfret rfl _ _ _ #[.bool sg, .slice A1 n1 c1', .slice D1 m1 d1] rfl rfl F.out.1) rfl F.out.2

end Go.Proofs.YtehdkdoaamlkdaaGreat
