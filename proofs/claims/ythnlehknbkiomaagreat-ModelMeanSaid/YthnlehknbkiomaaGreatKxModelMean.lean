/-
  What this law wants besides.
-/
import Derived.Test.YthnlehknbkiomaaGreatBundleP
import Derived.Test.YthnlehknbkiomaaGreatFrameP
import Derived.Test.YthnlehknbkiomaaGreatBundleA
import Derived.Test.YthnlehknbkiomaaGreatBundleC
import Derived.Test.YthnlehknbkiomaaGreatBundleE
import Derived.Test.YthnlehknbkiomaaGreatBundleF
import Derived.Test.YthnlehknbkiomaaGreatBundleG
import Derived.Test.YthnlehknbkiomaaGreatTv
import Derived.Test.YthnlehknbkiomaaGreatRatQ5
import Derived.Test.YthnlehknbkiomaaGreatBundleH
import Derived.Test.YthnlehknbkiomaaGreatVecLinW
import Derived.Test.YthnlehknbkiomaaGreatBundleT


namespace Go.Proofs.YthnlehknbkiomaaGreat
open Go.RowKit Go.Proofs.YthnlehknbkiomaaGreat.Num
set_option linter.unusedVariables false
set_option maxRecDepth 100000

set_option maxHeartbeats 1000000 in
theorem copy_any (A : Option Addr) (n c : Nat) (xs : List Nat) (w : World) (hx : Rd .u64 w w.heap.size A n xs) (hn : n ≤ 17592186044000) :
    Calls Tryz.prog 77 #[.slice A n c] w (OwnRet .u64 119 w xs) := by
  obtain ⟨i0, hi, hz0, hz1, hz2⟩ := info_parts info_u64
  go_enter Tryz.func77, Tryz.ntmps77
  go_wp2_with fail
  go_loopw [3, 4] (fun v iv wr => CopyRel .u64 119 w n xs v iv wr) (fun _ iv _ => n - (intOf iv).toNat)
  case atStart => exact ⟨0, Nat.zero_le _, rfl, by simpa using own_empty .u64 119 w w.heap.size (Nat.le_refl _), (Below.refl _ _).alloc (Nat.le_refl _) _⟩
  case round =>
    obtain ⟨k, hk, rfl, hown, hbel⟩ := hrel
    by_cases hlt : k < n
    · obtain ⟨x, ex⟩ : ∃ x, Hid (xs.getD k 0 = x) := ⟨_, hide rfl⟩
      have hx2 := hx.below hbel (Nat.le_refl _)
      obtain ⟨b, o, rfl, hbb, hc⟩ := hx2.at_ hlt
      rw [ex.out] at hc
      have ht := hide (take_push xs (by rw [hx.1]; exact hlt) ex.out)
      have hsz := hbel.size
      have hlen : (xs.take k).length + 1 ≤ 17592186044416 := by rw [List.length_take]; omega
      have fin : ∀ u v' w', Own .u64 119 wr w.heap.size u (xs.take k) → Own .u64 119 w' w.heap.size v' (xs.take k ++ [x]) → wr.grownBy w' u.ownBlock → CopyRel .u64 119 w n xs v' (.int .i64 ((k + 1 : Nat) : Int)) w' := by
        intro u v' w' hu ho hg
        rw [ht.out] at ho
        exact ⟨k + 1, by omega, rfl, ho, push_below hbel hu hg hsz⟩
      have Hown := hide hown
      have Hsz := hide hsz
      have Hlen := hide hlen
      clear hx hx2 hown hbel ht ex hsz hlen hbb
      go_wp2_with (at_builtin; go_must (refine wpList_push rfl (.tmp 12) (.tmp 17) 37 rfl Tryz.underlying37 hi hz0 hz1 hz2 rfl wr w.heap.size _ (xs.take k) x Hown.out rfl rfl Hlen.out (by decide) Hsz.out ?_); intro v' w' ho hg; have fin2 := fin _ v' w' Hown.out ho hg.1; clear fin ho hg)
      go_roundw
      case rel => exact fin2
      case measure => simp [intOf]; omega
    · obtain rfl : k = n := by omega
      rw [List.take_of_length_le (by rw [hx.1]; exact Nat.le_refl _)] at hown
      clear hx
      go_wp2_with fail
      go_ret
      exact ⟨_, rfl, hown, hbel⟩
end Go.Proofs.YthnlehknbkiomaaGreat
namespace Go.Proofs.YthnlehknbkiomaaGreat
open Go.RowKit Go.Proofs.YthnlehknbkiomaaGreat.Num
set_option linter.unusedVariables false
set_option maxRecDepth 100000

theorem Lw.of {w : World} {B : Nat} {v : Value} {xs : List Nat} {L : Nat} (h : Own .u64 119 w B v xs) (dx : Dg Q xs) (hL : xs.length ≤ L) : Lw w v xs L := by
  obtain ⟨A, c, rfl, h1, h2, h3, _⟩ := h.form
  exact ⟨A, _, c, rfl, h3, dx, h1, h2, hL⟩
theorem copy_l {w : World} {u : Value} {xs : List Nat} {L : Nat} (hu : Lw w u xs L) (hL : L ≤ 17592186044000) :
    Calls Tryz.prog 77 #[u] w fun e w' => ∃ r, e = .returned r ∧ Own .u64 119 w' w.heap.size r xs ∧ Lw w' r xs L ∧ Below w.heap.size w w' := by
  obtain ⟨A, n, c, rfl, hx, dx, h1, h2, h3⟩ := hu
  exact (copy_any A n c xs w hx (by omega)).mono fun e w' ⟨r, he, ho, hb⟩ => ⟨r, he, ho, Lw.of ho dx (by rw [hx.1]; exact h3), hb⟩
end Go.Proofs.YthnlehknbkiomaaGreat
namespace Go.Proofs.YthnlehknbkiomaaGreat
open Go.RowKit Go.Proofs.YthnlehknbkiomaaGreat.Num
set_option linter.unusedVariables false
set_option maxRecDepth 100000

theorem Lw.qset {w : World} {v : Value} {xs : List Nat} {L g : Nat} {t : TypeId} (h : Lw w v xs L) (hz : w.heap[g]? = some (.cells #[.bool false, .slice none 0 0] t (0, 0))) (a b : Value) : Lw ((w.setCell ⟨g, 0, none⟩ a).setCell ⟨g, 1, none⟩ b) v xs L := by
  obtain ⟨A, n, c, e, h1, h2⟩ := h
  exact ⟨A, n, c, e, by rw [size_zset]; exact h1.qset hz a b, h2⟩
theorem copy_fit {w0 w : World} {r : Value} {s : Bool} {xs : List Nat} {L g : Nat} (h : Lw w r xs L) (hz : Zb w g) (hg0 : w0.heap.size ≤ g) (hb : Below w0.heap.size w0 w) :
    ∃ A n c, r = .slice A n c ∧ w.cell? ⟨g, 0, none⟩ = some (.bool false) ∧ w.cell? ⟨g, 1, none⟩ = some (.slice none 0 0) ∧ w.frozen? ⟨g, 0, none⟩ = false ∧ w.frozen? ⟨g, 1, none⟩ = false ∧
      (((w.setCell ⟨g, 0, none⟩ (.bool s)).setCell ⟨g, 1, none⟩ (.slice A n c)).heap[g]? = some (.cells #[.bool s, .slice A n c] 39 (0, 0)) ∧
        ∃ r', Ending.returned (zv s (.slice A n c)) = .returned (zv s r') ∧ Lw ((w.setCell ⟨g, 0, none⟩ (.bool s)).setCell ⟨g, 1, none⟩ (.slice A n c)) r' xs L ∧ Below w0.heap.size w0 ((w.setCell ⟨g, 0, none⟩ (.bool s)).setCell ⟨g, 1, none⟩ (.slice A n c))) := by
  obtain ⟨A, n, c, rfl⟩ := h.nw.slice
  exact ⟨A, n, c, rfl, hz.c0, hz.c1, hz.fz 0, hz.fz 1, hz.set _ _, _, rfl, h.qset hz _ _, (hb.setCell hg0 _).setCell hg0 _⟩

end Go.Proofs.YthnlehknbkiomaaGreat
namespace Go.Proofs.YthnlehknbkiomaaGreat
open Go.RowKit Go.Proofs.YthnlehknbkiomaaGreat.Num
set_option linter.unusedVariables false
set_option maxRecDepth 100000

theorem quot_mk (s t : Bool) (x y : Nat) (h : y ≠ 0) : ((zi s x : Int) : Rat) / ((zi t y : Int) : Rat) = mkRat (zi (s != t) x) y := by
  have : (y : Rat) ≠ 0 := by simpa using h
  rw [Rat.mkRat_eq_div]
  unfold zi
  cases s <;> cases t <;> simp [Rat.intCast_neg, Rat.intCast_natCast] <;> grind
end Go.Proofs.YthnlehknbkiomaaGreat
namespace Go.Proofs.YthnlehknbkiomaaGreat
open Go.RowKit Go.Proofs.YthnlehknbkiomaaGreat.Num
set_option linter.unusedVariables false
set_option maxRecDepth 100000

set_option maxHeartbeats 4000000 in
theorem rmake_any {w : World} {u v : Value} {a b : Int} {L : Nat} (hu : Qi w u a L) (hv : Qi w v b L) (hb0 : b ≠ 0) (h1 : 1 ≤ L) (hL : L ≤ 100000000000) :
    Calls Tryz.prog 67 #[u, v] w (RfRet w ((a : Rat) / (b : Rat)) L) := by
  obtain ⟨u, rfl, hu⟩ := hu
  obtain ⟨v, rfl, hv⟩ := hv
  obtain ⟨A, n, c, rfl⟩ := hu.iw.slice
  obtain ⟨D, m, d, rfl⟩ := hv.iw.slice
  have hq := quot_mk (decide (a < 0)) (decide (b < 0)) a.natAbs b.natAbs (by omega)
  rw [zi_num, zi_num] at hq
  rw [hq]
  have hy : 0 < b.natAbs := by omega
  generalize a.natAbs = x at *
  generalize b.natAbs = y at *
  generalize decide (a < 0) = s at *
  generalize decide (b < 0) = t at *
  have b1 : Below w.heap.size w ((w.alloc (qbox s (.slice A n c))).alloc (qbox t (.slice D m d))) := ((Below.refl _ _).alloc (Nat.le_refl _) _).alloc (by simp) _
  have b2 : Below w.heap.size w (((w.alloc (qbox s (.slice A n c))).alloc (qbox t (.slice D m d))).alloc fqblk) := b1.alloc (by simp; omega) _
  have hz : Fb (((w.alloc (qbox s (.slice A n c))).alloc (qbox t (.slice D m d))).alloc fqblk) (w.heap.size + 1 + 1) := by have h := Fb.new ((w.alloc (qbox s (.slice A n c))).alloc (qbox t (.slice D m d))); simpa using h
  have LC := hide (lowest_any (s := (s != t)) (hu.step b2) (hv.step b2) hy h1 hL)
  generalize mkRat (zi (s != t) x) y = r at *
  have HB := hide b2
  have HZ := hide hz
  clear hu hv b1 b2 hz hq hy hb0
  go_enter Tryz.func67, Tryz.ntmps67
  go_wp2_with fail
  refine LC.out.mono ?_
  rintro e w1 ⟨v, rfl, c1, b1⟩
  obtain ⟨sg, A1, n1, c1', D1, m1, d1, rfl, c2⟩ := c1.parts
  obtain ⟨k0, k1, k2, f0, f1, f2, fin⟩ := rf_put (w0 := w) c2 (HZ.out.step b1) (by omega) (Below.step HB.out HB.out.size b1)
  have F := hide fin
  clear fin LC b1 c1 c2 HZ HB
  go_wp2_with fail
  exact bodyPost_ret (rfret rfl _ _ _ #[.bool sg, .slice A1 n1 c1', .slice D1 m1 d1] rfl rfl F.out.1) rfl F.out.2
end Go.Proofs.YthnlehknbkiomaaGreat
namespace Go.Proofs.YthnlehknbkiomaaGreat
open Go.RowKit Go.Proofs.YthnlehknbkiomaaGreat.Num
set_option linter.unusedVariables false
set_option linter.unusedSimpArgs false
set_option maxRecDepth 100000

theorem Ow.ot3 {W : World} {B : Nat} {v : Value} {d : List Rx} (h : Ow 41 er 3 W B v d) : ∀ g, v.ownBlock = some g → Ot W g := by
  intro g hg
  rcases h.form with ⟨rfl, _⟩ | ⟨g', cap, cur, rfl, hB, hlt, hh, r⟩
  · cases hg
  · have e : g' = g := by simpa [Value.ownBlock] using hg
    subst e
    exact ⟨cur, _, _, hh, by decide⟩
end Go.Proofs.YthnlehknbkiomaaGreat
namespace Go.Proofs.YthnlehknbkiomaaGreat
open Go.RowKit Go.Proofs.YthnlehknbkiomaaGreat.Num
set_option linter.unusedVariables false
set_option linter.unusedSimpArgs false
set_option maxRecDepth 100000

theorem den_ne (r : Rat) : ((r.den : Nat) : Rat) ≠ 0 := (not_congr Rat.natCast_eq_zero_iff).2 r.den_nz
theorem quot_num {a b : Rat} (hb : b ≠ 0) : ((a.num * ((b.den : Nat) : Int) : Int) : Rat) / ((b.num * ((a.den : Nat) : Int) : Int) : Rat) = a / b := by
  have h1 := num_div a
  have h2 := num_div b
  have h3 := den_ne a
  have h4 := den_ne b
  have h5 : (b.num : Rat) ≠ 0 := by
    intro h
    apply hb
    rw [← h2, h]
    grind
  rw [Rat.intCast_mul, Rat.intCast_mul, Rat.intCast_natCast, Rat.intCast_natCast]
  generalize (a.num : Rat) = p at *
  generalize (b.num : Rat) = q at *
  generalize ((a.den : Nat) : Rat) = s at *
  generalize ((b.den : Nat) : Rat) = t at *
  grind
theorem num_zero {r : Rat} (h : r ≠ 0) : r.num ≠ 0 := fun h2 => h (Rat.num_eq_zero.1 h2)
set_option maxHeartbeats 4000000 in
theorem rqdiv_any {w : World} {a b : Value} {r1 r2 : Rat} {L : Nat} (ha : Rf w a r1 L) (hb : Rf w b r2 L) (h0 : r2 ≠ 0) (h1 : 1 ≤ L) (hL : L ≤ 10000000000) :
    Calls Tryz.prog 27 #[a, b] w (RfRet w (r1 / r2) (L + L)) := by
  obtain ⟨s, A, n, c, D, m, d, rfl, ha⟩ := ha.parts
  obtain ⟨t, F, k, f, H, l, h, rfl, hb⟩ := hb.parts
  obtain ⟨b2, hz, y1, y2⟩ := fq_world2 w s t A D F H n c m d k f l h
  have R := hide (And.intro (ha.split.1.step b2) (And.intro (ha.split.2.step b2) (And.intro (hb.split.1.step b2) (hb.split.2.step b2))))
  have P := hide (And.intro y1 y2)
  have B := hide b2
  have Z := hide hz
  have hg0 : w.heap.size ≠ w.heap.size + 1 + 1 := by omega
  have hg1 : w.heap.size + 1 ≠ w.heap.size + 1 + 1 := by omega
  clear ha hb y1 y2 b2 hz
  have HE := hide (quot_num (a := r1) h0)
  have HN : Hid (r2.num * ((r1.den : Nat) : Int) ≠ 0) := hide (Int.mul_ne_zero (num_zero h0) (by have := r1.den_nz; omega))
  clear h0
  generalize r1.num = a1 at *
  generalize ((r1.den : Nat) : Int) = b1 at *
  generalize r2.num = a2 at *
  generalize ((r2.den : Nat) : Int) = b2 at *
  go_enter Tryz.func27, Tryz.ntmps27
  go_wp2_with fail
  generalize hW0 : (((w.alloc (fqbox s (.slice A n c) (.slice D m d))).alloc (fqbox t (.slice F k f) (.slice H l h))).alloc fqblk) = W0 at *
  go_region_held3 (fun W => (W.cell? ⟨w.heap.size, 0, none⟩ = some (.bool s) ∧ W.cell? ⟨w.heap.size, 1, none⟩ = some (.slice A n c) ∧ W.cell? ⟨w.heap.size, 2, none⟩ = some (.slice D m d)) ∧ (W.cell? ⟨w.heap.size + 1, 0, none⟩ = some (.bool t) ∧ W.cell? ⟨w.heap.size + 1, 1, none⟩ = some (.slice F k f) ∧ W.cell? ⟨w.heap.size + 1, 2, none⟩ = some (.slice H l h)))
    (first | exact P.out | exact ⟨⟨cell_rset P.out.1.1 hg0 _ _ _, cell_rset P.out.1.2.1 hg0 _ _ _, cell_rset P.out.1.2.2 hg0 _ _ _⟩, cell_rset P.out.2.1 hg1 _ _ _, cell_rset P.out.2.2.1 hg1 _ _ _, cell_rset P.out.2.2.2 hg1 _ _ _⟩)
    (first
      | (go_at_call 53; refine Calls.mono (rqtimes_any (z := a1) (q := b2) (L := L) ?_ ?_ (by omega)) ?_; (focus ((with_reducible exact R.out.1); done)); (focus ((with_reducible exact R.out.2.2.2); done)); rintro e wx ⟨vx, rfl, tx, bx⟩; replace P := hide (And.intro (P.out.1.step bx) (P.out.2.step bx)); replace R := hide (And.intro (R.out.1.step bx) (And.intro (R.out.2.1.step bx) (And.intro (R.out.2.2.1.step bx) (R.out.2.2.2.step bx)))); replace Z := hide (Z.out.step bx); replace B := hide (Below.step B.out B.out.size bx))
      | (go_at_call 53; refine Calls.mono (rqtimes_any (z := a2) (q := b1) (L := L) ?_ ?_ (by omega)) ?_; (focus ((with_reducible exact R.out.2.2.1); done)); (focus ((with_reducible exact R.out.2.1); done)); rintro e wx ⟨vx, rfl, tx, bx⟩; replace P := hide (And.intro (P.out.1.step bx) (P.out.2.step bx)); replace R := hide (And.intro (R.out.1.step bx) (And.intro (R.out.2.1.step bx) (And.intro (R.out.2.2.1.step bx) (R.out.2.2.2.step bx)))); replace Z := hide (Z.out.step bx); replace B := hide (Below.step B.out B.out.size bx))
      | (go_at_call 67; refine Calls.mono (rmake_any (a := a1 * b2) (b := a2 * b1) (L := L + L) ?_ ?_ HN.out (by omega) (by omega)) ?_; (focus ((repeat (first | (with_reducible assumption) | (with_reducible refine Qi.step ?_ (by with_reducible assumption)))); done)); (focus ((repeat (first | (with_reducible assumption) | (with_reducible refine Qi.step ?_ (by with_reducible assumption)))); done)); rintro e wx ⟨vx, rfl, tx, bx⟩; obtain ⟨sg, A9, n9, c9, D9, m9, d9, rfl, tx⟩ := tx.parts; obtain ⟨k0, k1, k2, f0, f1, f2, fin⟩ := rf_put (w0 := w) tx (Z.out.step bx) (by omega) (Below.step B.out B.out.size bx); replace P := hide (And.intro (P.out.1.step bx) (P.out.2.step bx))))
  all_goals
    have F9 := hide fin
    clear fin
    go_wp2_with fail
    exact bodyPost_ret (rfret rfl _ _ _ #[.bool sg, .slice A9 n9 c9, .slice D9 m9 d9] rfl rfl F9.out.1) rfl (by rw [← HE.out]; exact F9.out.2)
def Rl (w : World) (v : Value) (s : Bool) (xs ys : List Nat) (L : Nat) : Prop := ∃ u t, v = rv s u t ∧ Lw w u xs L ∧ Lw w t ys L
theorem Rl.ra {w : World} {v : Value} {s : Bool} {xs ys : List Nat} {L : Nat} (h : Rl w v s xs ys L) : Ra w v (mkRat (zi s (vl Q xs)) (dn (vl Q ys))) L := by
  obtain ⟨u, t, e, h1, h2⟩ := h
  exact ⟨s, u, t, _, _, e, h1.nw, h2.nw, rfl⟩
end Go.Proofs.YthnlehknbkiomaaGreat
namespace Go.Proofs.YthnlehknbkiomaaGreat.Num

theorem take_snoc {α : Type} {l : List α} {k : Nat} {x : α} (hx : l[k]? = some x) : l.take (k + 1) = l.take k ++ [x] := by
  rw [List.take_add_one, hx]; rfl
end Go.Proofs.YthnlehknbkiomaaGreat.Num
namespace Go.Proofs.YthnlehknbkiomaaGreat
open Go.RowKit Go.Proofs.YthnlehknbkiomaaGreat.Num
set_option linter.unusedVariables false
set_option linter.unusedSimpArgs false
set_option maxRecDepth 100000

theorem Lw.grownU {W W' : World} {v : Value} {xs : List Nat} {L g : Nat} (h : Lw W v xs L) (hg : W.grownBy W' (some g)) (hn : Nu W g) : Lw W' v xs L := by
  obtain ⟨A, n, c, e, h1, h2⟩ := h
  exact ⟨A, n, c, e, h1.grownU hg hn, h2⟩
theorem Lw.grownF {W W' : World} {A : Option Addr} {n c L : Nat} {xs : List Nat} {row : Option Nat} (h : Lw W (.slice A n c) xs L) (hg : W.grownBy W' row) (hn : 0 < n → ∀ B, A = some B → some B.block ≠ row) : Lw W' (.slice A n c) xs L := by
  obtain ⟨D, m, f, e, ⟨h1, h3⟩, h2⟩ := h
  injection e with e1 e2 e3
  subst e1 e2 e3
  refine ⟨A, n, c, rfl, ⟨h1, fun h0 => ?_⟩, h2⟩
  obtain ⟨b, off, e, hb, hc⟩ := h3 h0
  exact ⟨b, off, e, Nat.lt_of_lt_of_le hb hg.size, fun j hj => (World.cell?_of_block (hg.block b hb (hn h0 _ e))).trans (hc j hj)⟩

set_option maxHeartbeats 2000000 in
theorem zcopy_w {w : World} {s : Bool} {u : Value} {xs : List Nat} {L : Nat} (hu : Lw w u xs L) (hL : L ≤ 17592186044000) :
    Calls Tryz.prog 76 #[zv s u] w fun e w' => ∃ A n c, e = .returned (zv s (.slice A n c)) ∧ Lw w' (.slice A n c) xs L ∧ Wr w' w.heap.size (A, n, c) ∧ Below w.heap.size w w' := by
  obtain ⟨A, n, c, rfl⟩ := hu.nw.slice
  have a1 : Below w.heap.size w (w.alloc (zbox s (.slice A n c))) := (Below.refl _ _).alloc (Nat.le_refl _) _
  have a2 : Below w.heap.size w ((w.alloc (zbox s (.slice A n c))).alloc zblk) := a1.alloc (by simp) _
  have p0 : ((w.alloc (zbox s (.slice A n c))).alloc zblk).cell? ⟨w.heap.size, 0, none⟩ = some (.bool s) := by go_simp
  have p1 : ((w.alloc (zbox s (.slice A n c))).alloc zblk).cell? ⟨w.heap.size, 1, none⟩ = some (.slice A n c) := by go_simp
  have hz : Zb ((w.alloc (zbox s (.slice A n c))).alloc zblk) (w.heap.size + 1) := by have h := Zb.new (w.alloc (zbox s (.slice A n c))); simpa using h
  have HS := hide (show w.heap.size + 1 < ((w.alloc (zbox s (.slice A n c))).alloc zblk).heap.size by simp)
  have H := hide (hu.step a2)
  have HA := hide a2
  have HZ := hide hz
  clear hu a1 a2 hz
  go_enter Tryz.func76, Tryz.ntmps76
  go_wp2_with fail
  generalize hW0 : (w.alloc (zbox s (.slice A n c))).alloc zblk = W0 at *
  have p0d : W0.drew.cell? ⟨w.heap.size, 0, none⟩ = some (.bool s) := p0
  have p1d : W0.drew.cell? ⟨w.heap.size, 1, none⟩ = some (.slice A n c) := p1
  have C := hide (copy_l (w := W0.drew) H.out hL)
  go_region_held3 (fun W => W.cell? ⟨w.heap.size, 0, none⟩ = some (.bool s) ∧ W.cell? ⟨w.heap.size, 1, none⟩ = some (.slice A n c))
    (first
      | with_reducible exact ⟨p0d, p1d⟩
      | with_reducible exact ⟨cell_keep p0d b1, cell_keep p1d b1⟩
      | with_reducible exact ⟨cell_zset (cell_keep p0d b1) (by simp <;> omega) _ _, cell_zset (cell_keep p1d b1) (by simp <;> omega) _ _⟩)
    (first
      | (go_at_call 77; (with_reducible refine C.out.mono ?_); rintro e w1 ⟨r, rfl, o1, c1, b1⟩; obtain ⟨A1, n1, c2, rfl, k0, k1, f0, f1, fin⟩ := copy_fit (w0 := w) (s := s) c1 (HZ.out.step HS.out (below_of_drew b1)) (by omega) (HA.out.trans ((below_of_drew b1).mono HA.out.size)); have ZZ := hide (HZ.out.step HS.out (below_of_drew b1)); have CC := hide (c1.grownU (only_put2 w1 (w.heap.size + 1) (.bool s) (.slice A1 n1 c2)) (nu_of ZZ.out rfl)); have WW := hide ((o1.wr.mono (B' := w.heap.size) HA.out.size).grown (only_put2 w1 (w.heap.size + 1) (.bool s) (.slice A1 n1 c2)) (nu_of ZZ.out rfl)); clear o1 c1))
  all_goals
    obtain ⟨fh, rr, fe, fl, fb⟩ := fin
    have BB := hide fb
    have F := hide fh
    clear fh fe fl fb
    go_wp2_with fail
    exact bodyPost_ret (zret rfl _ _ _ #[.bool s, .slice A1 n1 c2] rfl rfl F.out) rfl ⟨A1, n1, c2, rfl, CC.out, WW.out, BB.out⟩

theorem Zf.step {W W' : World} {x : Rx} {z : Zt} {L : Nat} (h : Zf W x z L) (hb : Below W.heap.size W W') : Zf W' x z L := ⟨h.1, h.2.1, h.2.2.1.step hb, h.2.2.2.step hb⟩
theorem Zf.rl {W : World} {x : Rx} {z : Zt} {L : Nat} (h : Zf W x z L) : Rl W (rx x) z.s z.xs z.ys L := ⟨_, _, by rw [← h.1], h.2.2.1, h.2.2.2⟩
theorem Zf.ra {W : World} {x : Rx} {z : Zt} {L : Nat} (h : Zf W x z L) : Ra W (rx x) x.r L := by rw [h.2.1]; exact h.rl.ra
def Zg (W : World) (B : Nat) (x : Rx) (z : Zt) (L : Nat) : Prop := Zf W x z L ∧ Wr W B x.u ∧ Wr W B x.t
theorem Zg.step {W W' : World} {B L : Nat} {x : Rx} {z : Zt} (h : Zg W B x z L) (hb : Below W.heap.size W W') : Zg W' B x z L := ⟨h.1.step hb, h.2.1.step hb, h.2.2.step hb⟩
theorem Zg.mono {W : World} {B B' L : Nat} {x : Rx} {z : Zt} (h : Zg W B x z L) (hB : B' ≤ B) : Zg W B' x z L := ⟨h.1, h.2.1.mono hB, h.2.2.mono hB⟩
theorem Zg.grownT {W W' : World} {B L : Nat} {x : Rx} {z : Zt} {row : Option Nat} (h : Zg W B x z L) (hg : W.grownBy W' row) (hn : ∀ g, row = some g → Ot W g) : Zg W' B x z L := by
  have n1 : 0 < x.u.2.1 → ∀ B, x.u.1 = some B → some B.block ≠ row := fun h0 A hA e => h.2.1.ne (hn _ e.symm) h0 A hA rfl
  have n2 : 0 < x.t.2.1 → ∀ B, x.t.1 = some B → some B.block ≠ row := fun h0 A hA e => h.2.2.ne (hn _ e.symm) h0 A hA rfl
  exact ⟨⟨h.1.1, h.1.2.1, h.1.2.2.1.grownF hg n1, h.1.2.2.2.grownF hg n2⟩, h.2.1.grownF hg n1, h.2.2.grownF hg n2⟩
theorem Zg.grown {W W' : World} {B L g : Nat} {x : Rx} {z : Zt} (h : Zg W B x z L) (hg : W.grownBy W' (some g)) (hn : Nu W g) : Zg W' B x z L := ⟨⟨h.1.1, h.1.2.1, h.1.2.2.1.grownU hg hn, h.1.2.2.2.grownU hg hn⟩, h.2.1.grown hg hn, h.2.2.grown hg hn⟩
theorem zg_put {w0 w : World} {x : Rx} {z : Zt} {L g : Nat} (h : Zg w w0.heap.size x z L) (hz : Rb w g) (hg0 : w0.heap.size ≤ g) (hb : Below w0.heap.size w0 w) :
    (w.cell? ⟨g, 0, none⟩ = some (.bool false) ∧ w.cell? ⟨g, 1, none⟩ = some (.slice none 0 0) ∧ w.cell? ⟨g, 2, none⟩ = some (.slice none 0 0) ∧
      w.frozen? ⟨g, 0, none⟩ = false ∧ w.frozen? ⟨g, 1, none⟩ = false ∧ w.frozen? ⟨g, 2, none⟩ = false) ∧
      (((w.setCell ⟨g, 0, none⟩ (.bool x.s)).setCell ⟨g, 1, none⟩ (sv x.u)).setCell ⟨g, 2, none⟩ (sv x.t)).heap[g]? = some (.cells #[.bool x.s, sv x.u, sv x.t] 41 (0, 0)) ∧
        Zg (((w.setCell ⟨g, 0, none⟩ (.bool x.s)).setCell ⟨g, 1, none⟩ (sv x.u)).setCell ⟨g, 2, none⟩ (sv x.t)) w0.heap.size x z L ∧ Below w0.heap.size w0 (((w.setCell ⟨g, 0, none⟩ (.bool x.s)).setCell ⟨g, 1, none⟩ (sv x.u)).setCell ⟨g, 2, none⟩ (sv x.t)) :=
  ⟨⟨hz.c0, hz.c1, hz.c2, hz.fz 0, hz.fz 1, hz.fz 2⟩, hz.set _ _ _, h.grown (only_put3 w g _ _ _) hz.nu, below_put3 hb hg0 _ _ _⟩
theorem zf_of {W : World} {x : Rx} {L : Nat} (h : Ra W (rx x) x.r L) (c : Int) : ∃ z : Zt, z.c = c ∧ Zf W x z L := by
  obtain ⟨s, u, t, a, b, e, h1, h2, h3⟩ := h
  injection e with e
  have e3 := congrArg Array.toList e
  simp at e3
  obtain ⟨e4, e5, e6⟩ := e3
  obtain ⟨xs, e1, l1⟩ := h1.lw
  obtain ⟨ys, e2, l2⟩ := h2.lw
  subst e1 e2
  exact ⟨⟨c, s, xs, ys⟩, rfl, e4, h3, by rw [e5]; exact l1, by rw [e6]; exact l2⟩

set_option maxHeartbeats 4000000 in
theorem rcopy_w {w : World} {x : Rx} {z : Zt} {L : Nat} (hv : Zf w x z L) (hL : L ≤ 17592186044000) :
    Calls Tryz.prog 37 #[rx x] w fun e w' => ∃ y : Rx, e = .returned (rx y) ∧ Zg w' w.heap.size y z L ∧ Below w.heap.size w w' := by
  obtain ⟨s, ⟨A, n, c⟩, ⟨D, m, d⟩, r⟩ := x
  obtain ⟨zc, zs, xs, ys⟩ := z
  obtain ⟨e1, e2, h1, h2⟩ := hv
  dsimp only at e1
  subst e1
  have HR := hide e2
  clear e2
  obtain ⟨b2, hz, y1⟩ := f_world1 w s A D n c m d
  have N1 := hide (h1.step b2)
  have N2 := hide (h2.step b2)
  have P := hide y1
  have B := hide b2
  have Z := hide hz
  have hg0 : w.heap.size ≠ w.heap.size + 1 := by omega
  clear h1 h2 y1 b2 hz
  show Calls Tryz.prog 37 #[rv s (.slice A n c) (.slice D m d)] w _
  go_enter Tryz.func37, Tryz.ntmps37
  go_wp2_with fail
  generalize hW0 : ((w.alloc (rbox s (.slice A n c) (.slice D m d))).alloc rblk) = W0 at *
  go_region_held3 (fun W => (W.cell? ⟨w.heap.size, 0, none⟩ = some (.bool s) ∧ W.cell? ⟨w.heap.size, 1, none⟩ = some (.slice A n c) ∧ W.cell? ⟨w.heap.size, 2, none⟩ = some (.slice D m d)))
    (first | exact P.out | exact ⟨cell_rset P.out.1 hg0 _ _ _, cell_rset P.out.2.1 hg0 _ _ _, cell_rset P.out.2.2 hg0 _ _ _⟩)
    (first
      | (go_at_call 76; refine Calls.mono (zcopy_w (L := L) N1.out hL) ?_; rintro e wx ⟨A1, n1, c1, rfl, l1, w1, bx⟩; have L1 := hide l1; have W1 := hide (w1.mono (B' := w.heap.size) B.out.size); replace P := hide (P.out.step bx); replace N2 := hide (N2.out.step bx); replace Z := hide (Z.out.step bx); replace B := hide (Below.step B.out B.out.size bx); clear l1 w1 bx)
      | (go_at_call 77; refine Calls.mono (copy_l (L := L) N2.out hL) ?_; rintro e wx ⟨u2, rfl, o2, l2, bx⟩; obtain ⟨A2, n2, c2, rfl⟩ := l2.nw.slice; replace P := hide (P.out.step bx); obtain ⟨⟨k0, k1, k2, f0, f1, f2⟩, fin⟩ := zg_put (w0 := w) (x := ⟨s, (A1, n1, c1), (A2, n2, c2), r⟩) (z := ⟨zc, s, xs, ys⟩) (L := L) ⟨⟨rfl, HR.out, L1.out.step bx, l2⟩, W1.out.step bx, o2.wr.mono (B' := w.heap.size) B.out.size⟩ (Z.out.step bx) (by omega) (Below.step B.out B.out.size bx)))
  all_goals
    have F9 := hide fin
    clear fin
    go_wp2_with fail
    exact bodyPost_ret (rret rfl _ _ _ #[.bool s, .slice A1 n1 c1, .slice A2 n2 c2] rfl rfl F9.out.1) rfl ⟨⟨s, (A1, n1, c1), (A2, n2, c2), r⟩, rfl, F9.out.2⟩
end Go.Proofs.YthnlehknbkiomaaGreat
namespace Go.Proofs.YthnlehknbkiomaaGreat
open Go.RowKit Go.Proofs.YthnlehknbkiomaaGreat.Num
set_option linter.unusedVariables false
set_option linter.unusedSimpArgs false
set_option maxRecDepth 100000

theorem list_choose {α β : Type} {P : α → β → Prop} : ∀ (d : List α), (∀ x ∈ d, ∃ z, P x z) → ∃ zs : List β, d.length = zs.length ∧ ∀ (i : Nat) x z, d[i]? = some x → zs[i]? = some z → P x z
  | [], _ => ⟨[], rfl, fun i x z h => by simp at h⟩
  | y :: d, h => by
    obtain ⟨z0, h0⟩ := h y (by simp)
    obtain ⟨zs, hl, hz⟩ := list_choose d (fun x hx => h x (by simp [hx]))
    refine ⟨z0 :: zs, by simp [hl], fun i x z hx hz' => ?_⟩
    cases i with
    | zero => simp at hx hz'; subst hx hz'; exact h0
    | succ i => simp at hx hz'; exact hz i x z hx hz'
def Tl (W : World) (v : Value) (d : List Tx) (zs : List Zt) (L : Nat) : Prop := Lr et 4 W v d ∧ d.length = zs.length ∧ ∀ (i : Nat) x z, d[i]? = some x → zs[i]? = some z → x.c = z.c ∧ Zf W x.x z L
theorem Tl.step {W W' : World} {v : Value} {d : List Tx} {zs : List Zt} {L : Nat} (h : Tl W v d zs L) (hb : Below W.heap.size W W') : Tl W' v d zs L :=
  ⟨h.1.step hb, h.2.1, fun i x z hx hz => ⟨(h.2.2 i x z hx hz).1, (h.2.2 i x z hx hz).2.step hb⟩⟩
theorem zs_at {α β : Type} {d : List α} {zs : List β} (hl : d.length = zs.length) {i : Nat} {x : α} (hx : d[i]? = some x) : ∃ z, zs[i]? = some z := by
  have h := (List.getElem?_eq_some_iff.1 hx).1
  exact ⟨zs[i]'(by omega), List.getElem?_eq_getElem (by omega)⟩
theorem Tl.tv {W : World} {v : Value} {d : List Tx} {zs : List Zt} {L : Nat} (h : Tl W v d zs L) : Tv W v d L := ⟨h.1, fun x hx => by
  obtain ⟨i, hi, rfl⟩ := List.mem_iff_getElem.1 hx
  have hx' : d[i]? = some d[i] := List.getElem?_eq_getElem hi
  obtain ⟨z, hz⟩ := zs_at h.2.1 hx'
  exact (h.2.2 i _ z hx' hz).2.ra⟩
theorem tl_of {W : World} {v : Value} {d : List Tx} {L : Nat} (h : Tv W v d L) : ∃ zs, Tl W v d zs L := by
  obtain ⟨zs, hl, hz⟩ := list_choose (P := fun (x : Tx) (z : Zt) => x.c = z.c ∧ Zf W x.x z L) d (fun x hx => by
    obtain ⟨z, h1, h2⟩ := zf_of (h.2 x hx) x.c
    exact ⟨z, h1.symm, h2⟩)
  exact ⟨zs, h.1, hl, hz⟩
def Tw (W : World) (B : Nat) (v : Value) (d : List Tx) (zs : List Zt) (L : Nat) : Prop := Ow 68 et 4 W B v d ∧ d.length = zs.length ∧ ∀ (i : Nat) x z, d[i]? = some x → zs[i]? = some z → x.c = z.c ∧ Zg W B x.x z L
theorem Tw.step {W W' : World} {B : Nat} {v : Value} {d : List Tx} {zs : List Zt} {L : Nat} (h : Tw W B v d zs L) (hb : Below W.heap.size W W') : Tw W' B v d zs L :=
  ⟨h.1.step hb, h.2.1, fun i x z hx hz => ⟨(h.2.2 i x z hx hz).1, (h.2.2 i x z hx hz).2.step hb⟩⟩
theorem Tw.tl {W : World} {B : Nat} {v : Value} {d : List Tx} {zs : List Zt} {L : Nat} (h : Tw W B v d zs L) : Tl W v d zs L :=
  ⟨h.1.rl et_len, h.2.1, fun i x z hx hz => ⟨(h.2.2 i x z hx hz).1, (h.2.2 i x z hx hz).2.1⟩⟩
theorem Tw.push {W W' : World} {B L : Nat} {v v' : Value} {d : List Tx} {zs : List Zt} {x : Tx} {z : Zt} (T : Tw W B v d zs L) (ho : Ow 68 et 4 W' B v' (d ++ [x])) (hg : W.grownBy W' v.ownBlock) (hc : x.c = z.c) (hx : Zg W B x.x z L) : Tw W' B v' (d ++ [x]) (zs ++ [z]) L := by
  refine ⟨ho, by simp [T.2.1], fun i y u hy hu => ?_⟩
  by_cases hi : i < d.length
  · rw [List.getElem?_append_left hi] at hy
    rw [List.getElem?_append_left (by have := T.2.1; omega)] at hu
    exact ⟨(T.2.2 i y u hy hu).1, (T.2.2 i y u hy hu).2.grownT hg (fun g e => T.1.ot g e)⟩
  · rw [List.getElem?_append_right (by omega)] at hy
    rw [List.getElem?_append_right (by have := T.2.1; omega), ← T.2.1] at hu
    have hj : i - d.length = 0 := by
      have := (List.getElem?_eq_some_iff.1 hy).1
      simp at this
      omega
    rw [hj] at hy hu
    simp at hy hu
    subst hy hu
    exact ⟨hc, hx.grownT hg (fun g e => T.1.ot g e)⟩

def E4 (W : World) (A : Option Addr) (j : Nat) (x : Tx) : Prop := ∃ b off, A = some ⟨b, off, none⟩ ∧ W.cell? ⟨b, off + j, none⟩ = some (.int .i64 x.c) ∧ W.cell? ⟨b, off + j + 1, none⟩ = some (.bool x.x.s) ∧ W.cell? ⟨b, off + j + 2, none⟩ = some (sv x.x.u) ∧ W.cell? ⟨b, off + j + 3, none⟩ = some (sv x.x.t)
theorem E4.of {W : World} {A : Option Addr} {n c k : Nat} {d : List Tx} {x : Tx} (h : Lr et 4 W (.slice A n c) d) (hx : d[k]? = some x) : E4 W A (k * 4) x := by
  obtain ⟨b, off, rfl, hb, hc⟩ := h.get hx
  exact ⟨b, off, rfl, by have := hc 0 _ rfl; rwa [Nat.add_zero] at this, hc 1 _ rfl, hc 2 _ rfl, hc 3 _ rfl⟩
theorem E4.cells {W : World} {b off j : Nat} {x : Tx} (h : E4 W (some ⟨b, off, none⟩) j x) : W.cell? ⟨b, off + j, none⟩ = some (.int .i64 x.c) ∧ W.cell? ⟨b, off + j + 1, none⟩ = some (.bool x.x.s) ∧ W.cell? ⟨b, off + j + 2, none⟩ = some (sv x.x.u) ∧ W.cell? ⟨b, off + j + 3, none⟩ = some (sv x.x.t) := by
  obtain ⟨b', off', e, h⟩ := h
  injection e with e
  injection e with e1 e2
  subst e1 e2
  exact h

set_option maxHeartbeats 8000000 in
theorem copy_v {w : World} {v : Value} {d : List Tx} {zs : List Zt} {L : Nat} (hv : Tl w v d zs L) (hL : L ≤ 17592186044000) (hn : d.length ≤ 1000000) :
    Calls Tryz.prog 38 #[v] w fun e w' => ∃ v' d', e = .returned v' ∧ Tw w' w.heap.size v' d' zs L ∧ Below w.heap.size w w' := by
  obtain ⟨i0, hi, hz0, hz1, hz2⟩ := info_parts info_tm
  obtain ⟨A, c, e1, hc1, hc2, hc3⟩ := id hv.1
  obtain ⟨n, hlen⟩ : ∃ n, n = d.length := ⟨_, rfl⟩
  rw [← hlen] at e1 hc1
  subst e1
  have b0 := alloc_below w (.cells #[] 68)
  have HV := hide hv
  have T0 := hide (show Tw (w.alloc (.cells #[] 68)) w.heap.size (.slice (some ⟨w.heap.size, 0, none⟩) 0 0) [] (zs.take 0) L from ⟨Ow.lit (B := w.heap.size) et_len w 68 ([] : List Tx) #[] rfl (Nat.le_refl _) (by simp [maxLen]), by simp, fun i x z hx => by simp at hx⟩)
  have B0 := hide b0
  have DN := hide hn
  have HN := hide hlen
  have HZ := hide hv.2.1
  have HL := hide hL
  unfold maxLen at hc2
  clear hv b0 hn hc3 hlen
  go_enter Tryz.func38, Tryz.ntmps38
  go_wp2_with fail
  go_loopw [3, 4] (fun ov iv wr => ∃ (k : Nat) (os : List Tx), k ≤ n ∧ iv = .int .i64 (k : Int) ∧ Hid (os.length = k) ∧ Hid (Below w.heap.size w wr) ∧ Hid (Tw wr w.heap.size ov os (zs.take k) L)) (fun _ iv _ => n - (intOf iv).toNat)
  case atStart => exact ⟨0, [], Nat.zero_le _, rfl, hide rfl, B0, T0⟩
  case round =>
    obtain ⟨k, os, hk, rfl, KL, B, T⟩ := hrel
    by_cases hlt : k < n
    · obtain ⟨x, hx⟩ := len_of (d := d) (k := k) (by rw [← HN.out]; exact hlt)
      obtain ⟨z, hz⟩ := zs_at HZ.out hx
      have HC := hide (show ∀ W, Below w.heap.size w W → E4 W A (k * 4) x from fun W h => E4.of (HV.out.1.step h) hx)
      have X5 := hide (((HV.out.2.2 k x z hx hz).2.step B.out).step (Below.refl wr.heap.size wr).drew)
      have XC := hide (HV.out.2.2 k x z hx hz).1
      have b8 := (Below.refl wr.heap.size wr).drew
      have T5 := hide (T.out.step b8)
      have B5 := hide (Below.step B.out B.out.size b8)
      have HLEN := hide (show os.length + 1 ≤ 1000000000000 by have := KL.out; have := DN.out; have := HN.out; omega)
      have EZ := hide (show zs.take (k + 1) = zs.take k ++ [z] from take_snoc hz)
      have l0 : (0 : Int) ≤ (k : Int) := by omega
      have l1 : (k : Int) < (n : Int) := by omega
      obtain ⟨b, off, rfl, -⟩ := HC.out w (Below.refl _ _)
      obtain ⟨c0, c1, c2, c3⟩ := (HC.out _ B5.out).cells
      clear hx hz b8 T
      go_wp2_with fail
      go_region_held3 (fun W => W.cell? ⟨b, off + k * 4, none⟩ = some (.int .i64 x.c) ∧ W.cell? ⟨b, off + k * 4 + 1, none⟩ = some (.bool x.x.s) ∧ W.cell? ⟨b, off + k * 4 + 2, none⟩ = some (sv x.x.u) ∧ W.cell? ⟨b, off + k * 4 + 3, none⟩ = some (sv x.x.t))
        (with_reducible first | exact (HC.out _ B5.out).cells | exact (HC.out _ B7.out).cells | exact (HC.out _ (B7.out.alloc B7.out.size _)).cells | exact (HC.out _ CF.out).cells)
        (first
          | (go_at_call 37; refine Calls.mono (rcopy_w X5.out HL.out) ?_; rintro e wx ⟨y, rfl, zy, bx⟩; have T7 := hide (T5.out.step bx); have B7 := hide (Below.step B5.out B5.out.size bx); have Z7 := hide (zy.mono (B' := w.heap.size) B5.out.size); clear zy bx)
          | (refine step_pushE rfl (.tmp 12) (.tmp 25) 31 rfl Tryz.underlying31 hi hz0 hz1 hz2 rfl (by omega) et_len et_one wx w.heap.size _ os ⟨x.c, y⟩ _ rfl T7.out.1 rfl rfl HLEN.out (by decide) B7.out.size ?_; intro v' w' ho hg; have TF := hide (T7.out.push ho hg.1 XC.out Z7.out); have CF := hide (below_own B7.out T7.out.1 hg.1 B7.out.size); clear ho hg))
      all_goals
        have TG := hide (show Tw w' w.heap.size v' (os ++ [⟨x.c, y⟩]) (zs.take (k + 1)) L by rw [EZ.out]; exact TF.out)
        have K2 := hide (show (os ++ [(⟨x.c, y⟩ : Tx)]).length = k + 1 by have := KL.out; simp; omega)
        clear T5 B5 X5 TF T7 B7 Z7 c0 c1 c2 c3
        go_wp2_with fail
        exact ⟨⟨k + 1, os ++ [⟨x.c, y⟩], by omega, by go_num, K2, CF, TG⟩, by simp [intOf]; omega⟩
    · obtain rfl : k = n := by omega
      have TT := hide (show Tw wr w.heap.size _ os zs L by have h := T.out; rwa [List.take_of_length_le (by rw [← HZ.out, ← HN.out]; exact Nat.le_refl _)] at h)
      clear T
      go_wp2_with fail
      go_ret
      exact ⟨_, os, rfl, TT.out, B.out⟩
end Go.Proofs.YthnlehknbkiomaaGreat
namespace Go.Proofs.YthnlehknbkiomaaGreat
open Go.RowKit Go.Proofs.YthnlehknbkiomaaGreat.Num
set_option linter.unusedVariables false
set_option linter.unusedSimpArgs false
set_option maxRecDepth 100000

def Fg (W : World) (B : Nat) (v : Value) (l : List Rx) (K : Nat) : Prop := Ow 41 er 3 W B v l ∧ ∀ x ∈ l, Rg W B x K
theorem Fg.step {W W' : World} {B : Nat} {v : Value} {l : List Rx} {K : Nat} (h : Fg W B v l K) (hb : Below W.heap.size W W') : Fg W' B v l K := ⟨h.1.step hb, fun x hx => (h.2 x hx).step hb⟩
theorem Fg.fv {W : World} {B : Nat} {v : Value} {l : List Rx} {K : Nat} (h : Fg W B v l K) : Fv W v l K := ⟨h.1.rl er_len, fun x hx => (h.2 x hx).ra⟩
theorem Fg.push {W W' : World} {B K : Nat} {v v' : Value} {os : List Rx} {y : Rx} (T : Fg W B v os K) (ho : Ow 41 er 3 W' B v' (os ++ [y])) (hg : W.grownBy W' v.ownBlock) (ry : Rg W B y K) : Fg W' B v' (os ++ [y]) K := by
  refine ⟨ho, fun x hx => ?_⟩
  rcases List.mem_append.1 hx with h | h
  · exact (T.2 x h).grownT hg (fun g e => T.1.ot3 g e)
  · simp at h
    subst h
    exact ry.grownT hg (fun g e => T.1.ot3 g e)
end Go.Proofs.YthnlehknbkiomaaGreat
namespace Go.Proofs.YthnlehknbkiomaaGreat
open Go.RowKit Go.Proofs.YthnlehknbkiomaaGreat.Num
set_option linter.unusedVariables false
set_option linter.unusedSimpArgs false
set_option maxRecDepth 100000

theorem ew_one (r : Wx) : ∀ u ∈ ew r, u.oneCell' = true := by
  intro u hu
  simp [ew] at hu
  rcases hu with rfl | rfl | rfl | rfl | rfl | rfl | rfl | rfl | rfl | rfl <;> rfl
theorem eu_one (x : Ux) : ∀ u ∈ eu x, u.oneCell' = true := by
  intro u hu
  simp [eu] at hu
  rcases hu with rfl | rfl | rfl | rfl | rfl | rfl | rfl | rfl | rfl | rfl | rfl | rfl | rfl <;> rfl
end Go.Proofs.YthnlehknbkiomaaGreat
namespace Go.Proofs.YthnlehknbkiomaaGreat
open Go.RowKit Go.Proofs.YthnlehknbkiomaaGreat.Num
set_option linter.unusedVariables false
set_option linter.unusedSimpArgs false
set_option maxRecDepth 100000

def mean (a b : Rat) : Rat := (a + b) / 2
theorem two_mean (a b : Rat) : 2 * mean a b = a + b := by unfold mean; grind
theorem bnd_mean {a b : Bool} {lo hi q r : Rat} (h : Bnd a b lo hi q) (k : Bnd a b lo hi r) : Bnd a b lo hi (mean q r) := by
  have e := two_mean q r
  refine ⟨fun ha => ?_, fun hb => ?_⟩
  · have h1 := h.1 ha
    have h2 := k.1 ha
    grind
  · have h1 := h.2 hb
    have h2 := k.2 hb
    grind
theorem dt_mean (ts : List Tm) {f g m : Int → Rat} (hm : ∀ c, m c = mean (f c) (g c)) : dt ts m = mean (dt ts f) (dt ts g) := by
  induction ts with
  | nil => unfold mean; simp only [dt]; grind
  | cons t ts ih =>
    simp only [dt, ih, hm]
    unfold mean
    grind
theorem sm_mean (n : Nat) (a : Nat → Rat) {f g m : Int → Rat} (hm : ∀ c, m c = mean (f c) (g c)) : 2 * sm n (fun i => a i * m (i : Int)) = sm n (fun i => a i * f (i : Int)) + sm n (fun i => a i * g (i : Int)) := by
  induction n with
  | zero => simp only [sm]; grind
  | succ n ih =>
    simp only [sm]
    have e := two_mean (f n) (g n)
    rw [hm (n : Int)]
    grind
def Px.loose (p : Px) : Prop := ∀ x ∈ p.vars, x.w = false
theorem hlds_mean {p : Px} (hp : p.loose) {f g m : Int → Rat} (hm : ∀ c, m c = mean (f c) (g c)) (h : Hlds p f) (k : Hlds p g) : Hlds p m := by
  refine ⟨fun i x hx => ⟨?_, fun hw => ?_⟩, fun r hr => ?_⟩
  · rw [hm]
    exact bnd_mean (h.1 i x hx).1 (k.1 i x hx).1
  · rw [hp x (List.mem_of_getElem? hx)] at hw
    cases hw
  · rw [dt_mean _ hm]
    exact bnd_mean (h.2 r hr) (k.2 r hr)
end Go.Proofs.YthnlehknbkiomaaGreat
