/-
  Shared texts, one behind the other: ZrefG, RatM, RatQ6, Pk, Spw, Vref1, Vref2, Vref3, Vref4, Vcpy, Vcpy2, Vspl.
-/
import Derived.Test.YtofmhfbbedalbaaGreatLatC
import Derived.Test.YtofmhfbbedalbaaGreatBundleE
import Derived.Test.YtofmhfbbedalbaaGreatBundleG
import Derived.Test.YtofmhfbbedalbaaGreatRatQ5
import Derived.Test.YtofmhfbbedalbaaGreatTm
import Derived.Test.YtofmhfbbedalbaaGreatTv
import Derived.Test.YtofmhfbbedalbaaGreatBundleO

namespace Go.Proofs.YtofmhfbbedalbaaGreat
open Go.RowKit Go.Proofs.YtofmhfbbedalbaaGreat.Num
set_option linter.unusedVariables false
set_option linter.unusedSimpArgs false
set_option maxRecDepth 100000
theorem cmpR_lt {a b : Rat} (h : a < b) : cmpR a b = -1 := by unfold cmpR; rw [if_pos h]
theorem cmpR_same (a : Rat) : cmpR a a = 0 := by unfold cmpR; rw [if_neg (by grind), if_neg (by grind)]
theorem cmpR_turn (a b : Rat) : cmpR b a = -cmpR a b := by unfold cmpR; split <;> split <;> (try split) <;> (try split) <;> first | rfl | (exfalso; grind)
theorem cmpR_le {a b : Rat} : cmpR a b ≤ 0 ↔ a ≤ b := by unfold cmpR; split <;> (try split) <;> constructor <;> intro h <;> first | omega | grind
theorem add_num (a b : Rat) : mkRat (a.num * ((b.den : Nat) : Int) + b.num * ((a.den : Nat) : Int)) (a.den * b.den) = a + b := by
 have h := Rat.mkRat_add_mkRat a.num b.num a.den_nz b.den_nz
 rw [Rat.mkRat_self, Rat.mkRat_self] at h
 exact h.symm
theorem lowest_q {w : World} {v t : Value} {z : Int} {y L : Nat} (hv : Qi w v z L) (ht : Ic w t y L) (hy : 0 < y) (h1 : 1 ≤ L) (hL : L ≤ 100000000000) :
  Calls Tryz.prog 70 #[v, t] w (RfRet w (mkRat z y) L) := by
 obtain ⟨u, rfl, hu⟩ := hv
 have h := lowest_any (s := decide (z < 0)) hu ht hy h1 hL
 rw [zi_num] at h
 exact h
theorem rf_neg {w : World} {sg : Bool} {u t : Value} {r : Rat} {L : Nat} (hu : Qi w (zv sg u) (-r.num) L) (ht : Ic w t r.den L) : Rf w (rv sg u t) (-r) L := by
 obtain ⟨u', e, hi⟩ := hu
 injection e with e
 have e2 : sg = decide (-r.num < 0) ∧ u = u' := by simpa using e
 obtain ⟨rfl, rfl⟩ := e2
 exact ⟨u, t, by rw [Rat.neg_num], by rw [Rat.neg_num]; exact hi, by rw [Rat.neg_den]; exact ht⟩
theorem fq_world1f (w : World) (s : Bool) (A D : Option Addr) (n c m d : Nat) :
  Below w.heap.size w ((w.alloc (fqbox s (.slice A n c) (.slice D m d))).alloc fqblk).drew ∧ Fb ((w.alloc (fqbox s (.slice A n c) (.slice D m d))).alloc fqblk).drew (w.heap.size + 1) ∧ Fx ((w.alloc (fqbox s (.slice A n c) (.slice D m d))).alloc fqblk).drew w.heap.size s A n c D m d := by
 refine ⟨below_drewN (((Below.refl _ _).alloc (Nat.le_refl _) _).alloc (by simp) _) 1, ?_, ?_, ?_, ?_⟩
 ·have h := Fb.new (w.alloc (fqbox s (.slice A n c) (.slice D m d)))
  have h2 : Fb ((w.alloc (fqbox s (.slice A n c) (.slice D m d))).alloc fqblk) (w.heap.size + 1) := by simpa using h
  exact h2
 all_goals go_simp
set_option maxHeartbeats 4000000 in
theorem rqneg_any {w : World} {a : Value} {r : Rat} {L : Nat} (ha : Rf w a r L) (hL : L ≤ 800000000000) :
  Calls Tryz.prog 41 #[a] w (RfRet w (-r) L) := by
 obtain ⟨s, A, n, c, D, m, d, rfl, ha⟩ := ha.parts
 obtain ⟨b2, hz, y1⟩ := fq_world1f w s A D n c m d
 have QA := hide (ha.split.1.step b2)
 have QD := hide ((qiden_ic ha.split.2).step b2)
 have P := hide y1
 have B := hide b2
 have Z := hide hz
 have hg0 : w.heap.size ≠ w.heap.size + 1 := by omega
 clear ha y1 b2 hz
 go_enter Tryz.func41, Tryz.ntmps41
 go_wp2_with fail
 generalize hW0 : ((w.alloc (fqbox s (.slice A n c) (.slice D m d))).alloc fqblk) = W0 at *
 go_region_held3 (fun W => (W.cell? ⟨w.heap.size, 0, none⟩ = some (.bool s) ∧ W.cell? ⟨w.heap.size, 1, none⟩ = some (.slice A n c) ∧ W.cell? ⟨w.heap.size, 2, none⟩ = some (.slice D m d)))
  (first | exact P.out | exact ⟨cell_rset P.out.1 hg0 _ _ _, cell_rset P.out.2.1 hg0 _ _ _, cell_rset P.out.2.2 hg0 _ _ _⟩)
  (first
   | (go_at_call 73; refine Calls.mono (qneg_any QA.out hL) ?_; rintro e wx ⟨v1, rfl, q1, bx⟩; obtain ⟨s1, x1, A1, n1, c1, rfl, -, -, -⟩ := id q1.parts; replace P := hide (P.out.step bx); obtain ⟨k0, k1, k2, f0, f1, f2, fin⟩ := rf_put (w0 := w) (rf_neg q1 (QD.out.step bx)) (Z.out.step bx) (by omega) (Below.step B.out B.out.size bx)))
 all_goals
  have F9 := hide fin
  clear fin
  go_wp2_with fail
  exact bodyPost_ret (rfret rfl _ _ _ #[.bool s1, .slice A1 n1 c1, .slice D m d] rfl rfl F9.out.1) rfl F9.out.2
set_option maxHeartbeats 8000000 in
theorem rqadd_any {w : World} {a b : Value} {r1 r2 : Rat} {L : Nat} (ha : Rf w a r1 L) (hb : Rf w b r2 L) (h1 : 1 ≤ L) (hL : L ≤ 10000000000) :
  Calls Tryz.prog 79 #[a, b] w (RfRet w (r1 + r2) (L + L + 1)) := by
 obtain ⟨s, A, n, c, D, m, d, rfl, ha⟩ := ha.parts
 obtain ⟨t, F, k, f, H, l, h, rfl, hb⟩ := hb.parts
 obtain ⟨b2, hz, y1, y2⟩ := fq_world2 w s t A D F H n c m d k f l h
 have R := hide (And.intro (ha.split.1.step b2) (And.intro (ha.split.2.step b2) (And.intro (hb.split.1.step b2) (hb.split.2.step b2))))
 have P := hide (And.intro y1 y2)
 have B := hide b2
 have Z := hide hz
 have hg0 : w.heap.size ≠ w.heap.size + 1 + 1 := by omega
 have hg1 : w.heap.size + 1 ≠ w.heap.size + 1 + 1 := by omega
 clear ha hb y1 y2 b2 hz
 have HE := hide (add_num r1 r2)
 have HP := hide (Nat.mul_pos (Nat.pos_of_ne_zero r1.den_nz) (Nat.pos_of_ne_zero r2.den_nz))
 generalize r1.num = a1 at *
 generalize r1.den = e1 at *
 generalize r2.num = a2 at *
 generalize r2.den = e2 at *
 go_enter Tryz.func79, Tryz.ntmps79
 go_wp2_with fail
 generalize hW0 : (((w.alloc (fqbox s (.slice A n c) (.slice D m d))).alloc (fqbox t (.slice F k f) (.slice H l h))).alloc fqblk) = W0 at *
 go_region_held3 (fun W => (W.cell? ⟨w.heap.size, 0, none⟩ = some (.bool s) ∧ W.cell? ⟨w.heap.size, 1, none⟩ = some (.slice A n c) ∧ W.cell? ⟨w.heap.size, 2, none⟩ = some (.slice D m d)) ∧ (W.cell? ⟨w.heap.size + 1, 0, none⟩ = some (.bool t) ∧ W.cell? ⟨w.heap.size + 1, 1, none⟩ = some (.slice F k f) ∧ W.cell? ⟨w.heap.size + 1, 2, none⟩ = some (.slice H l h)))
  (first | exact P.out | exact ⟨⟨cell_rset P.out.1.1 hg0 _ _ _, cell_rset P.out.1.2.1 hg0 _ _ _, cell_rset P.out.1.2.2 hg0 _ _ _⟩, cell_rset P.out.2.1 hg1 _ _ _, cell_rset P.out.2.2.1 hg1 _ _ _, cell_rset P.out.2.2.2 hg1 _ _ _⟩)
  (first
   | (go_at_call 77; refine Calls.mono (rqtimes_any (z := a1) (q := ((e2 : Nat) : Int)) (L := L) ?_ ?_ (by omega)) ?_; (focus ((with_reducible exact R.out.1); done)); (focus ((with_reducible exact R.out.2.2.2); done)); rintro e wx ⟨vx, rfl, tx, bx⟩; replace P := hide (And.intro (P.out.1.step bx) (P.out.2.step bx)); replace R := hide (And.intro (R.out.1.step bx) (And.intro (R.out.2.1.step bx) (And.intro (R.out.2.2.1.step bx) (R.out.2.2.2.step bx)))); replace Z := hide (Z.out.step bx); replace B := hide (Below.step B.out B.out.size bx))
   | (go_at_call 77; refine Calls.mono (rqtimes_any (z := a2) (q := ((e1 : Nat) : Int)) (L := L) ?_ ?_ (by omega)) ?_; (focus ((with_reducible exact R.out.2.2.1); done)); (focus ((with_reducible exact R.out.2.1); done)); rintro e wx ⟨vx, rfl, tx, bx⟩; replace P := hide (And.intro (P.out.1.step bx) (P.out.2.step bx)); replace R := hide (And.intro (R.out.1.step bx) (And.intro (R.out.2.1.step bx) (And.intro (R.out.2.2.1.step bx) (R.out.2.2.2.step bx)))); replace Z := hide (Z.out.step bx); replace B := hide (Below.step B.out B.out.size bx))
   | (go_at_call 114; refine Calls.mono (qadd_any (a := a1 * ((e2 : Nat) : Int)) (b := a2 * ((e1 : Nat) : Int)) (L := L + L) (M := L + L) (K := L + L) ?_ ?_ (by omega) (by omega) (by omega)) ?_; (focus ((repeat (first | (with_reducible assumption) | (with_reducible refine Qi.step ?_ (by with_reducible assumption)))); done)); (focus ((repeat (first | (with_reducible assumption) | (with_reducible refine Qi.step ?_ (by with_reducible assumption)))); done)); rintro e wx ⟨vx, rfl, tx, bx⟩; replace P := hide (And.intro (P.out.1.step bx) (P.out.2.step bx)); replace R := hide (And.intro (R.out.1.step bx) (And.intro (R.out.2.1.step bx) (And.intro (R.out.2.2.1.step bx) (R.out.2.2.2.step bx)))); replace Z := hide (Z.out.step bx); replace B := hide (Below.step B.out B.out.size bx))
   | (go_at_call 106; refine Calls.mono (imul (L := L) (M := L) (qiden_ic R.out.2.1).iw (qiden_ic R.out.2.2.2).iw (by omega) (by omega)) ?_; rintro e wx ⟨vy, rfl, -, iy, bx⟩; replace P := hide (And.intro (P.out.1.step bx) (P.out.2.step bx)); replace R := hide (And.intro (R.out.1.step bx) (And.intro (R.out.2.1.step bx) (And.intro (R.out.2.2.1.step bx) (R.out.2.2.2.step bx)))); replace Z := hide (Z.out.step bx); replace B := hide (Below.step B.out B.out.size bx))
   | (go_at_call 70; refine Calls.mono (lowest_q (z := a1 * ((e2 : Nat) : Int) + a2 * ((e1 : Nat) : Int)) (y := e1 * e2) (L := L + L + 1) ?_ (iy.more (by omega)) HP.out (by omega) (by omega)) ?_; (focus ((repeat (first | (with_reducible assumption) | (with_reducible refine Qi.step ?_ (by with_reducible assumption)))); done)); rintro e wx ⟨vx, rfl, tx, bx⟩; obtain ⟨sg, A9, n9, c9, D9, m9, d9, rfl, tx⟩ := tx.parts; obtain ⟨k0, k1, k2, f0, f1, f2, fin⟩ := rf_put (w0 := w) tx (Z.out.step bx) (by omega) (Below.step B.out B.out.size bx); replace P := hide (And.intro (P.out.1.step bx) (P.out.2.step bx))))
 all_goals
  have F9 := hide fin
  clear fin
  go_wp2_with fail
  exact bodyPost_ret (rfret rfl _ _ _ #[.bool sg, .slice A9 n9 c9, .slice D9 m9 d9] rfl rfl F9.out.1) rfl (by rw [← HE.out]; exact F9.out.2)
end Go.Proofs.YtofmhfbbedalbaaGreat

namespace Go.Proofs.YtofmhfbbedalbaaGreat.Num
abbrev Up (l : List Nat) : Prop := l.Pairwise (· < ·)
def Ins (x : Nat) (l os : List Nat) : Prop := Up os ∧ (∀ y, y ∈ os ↔ y = x ∨ y ∈ l) ∧ os.length ≤ l.length + 1
theorem Ins.self {x : Nat} {l : List Nat} (h : Up l) (hx : x ∈ l) : Ins x l l :=
 ⟨h, fun y => ⟨.inr, fun h => h.elim (fun e => e ▸ hx) id⟩, by omega⟩
theorem up_snoc {l : List Nat} {x : Nat} (h : Up l) (hx : ∀ y ∈ l, y < x) : Up (l ++ [x]) :=
 List.pairwise_append.2 ⟨h, by simp, fun a ha b hb => by simp at hb; subst hb; exact hx a ha⟩
theorem up_take {l : List Nat} {k x : Nat} (h : Up l) (hx : l[k]? = some x) : ∀ y ∈ l.take k, y < x := by
 intro y hy
 obtain ⟨i, hi, rfl⟩ := List.mem_iff_getElem.1 hy
 obtain ⟨hk, rfl⟩ := List.getElem?_eq_some_iff.1 hx
 rw [List.getElem_take]
 have h1 : i < k := by simp at hi; omega
 exact (List.pairwise_iff_getElem.1 h) i k (by omega) hk h1
theorem take_snoc {α : Type} {l : List α} {k : Nat} {x : α} (hx : l[k]? = some x) : l.take (k + 1) = l.take k ++ [x] := by
 rw [List.take_add_one, hx]; rfl
def InsAt (x : Nat) (l : List Nat) (k : Nat) (done : Bool) (os : List Nat) : Prop :=
 Up os ∧ (∀ y, y ∈ os ↔ (done = true ∧ y = x) ∨ y ∈ l.take k) ∧ (done = false → ∀ y ∈ l.take k, y < x) ∧ (done = true → ∃ y ∈ l.take k, x < y) ∧ os.length ≤ k + (if done then 1 else 0)
theorem InsAt.zero (x : Nat) (l : List Nat) : InsAt x l 0 false [] := ⟨List.Pairwise.nil, by simp, by simp, by simp, by simp⟩
theorem InsAt.less {x : Nat} {l : List Nat} {k y : Nat} {os : List Nat} (h : InsAt x l k false os) (hl : Up l) (hy : l[k]? = some y) (hlt : y < x) : InsAt x l (k + 1) false (os ++ [y]) := by
 obtain ⟨h1, h2, h3, h4, h5⟩ := h
 have hu := up_take hl hy
 rw [InsAt, take_snoc hy]
 refine ⟨up_snoc h1 (fun z hz => ?_), fun z => ?_, fun _ z hz => ?_, by simp, by simp at h5 ⊢; omega⟩
 ·rcases (h2 z).1 hz with h | h
  ·simp at h
  ·exact hu z h
 ·simp only [List.mem_append, h2]; simp
 ·rcases List.mem_append.1 hz with h | h
  ·exact h3 rfl z h
  ·simp at h; omega
theorem InsAt.here {x : Nat} {l : List Nat} {k y : Nat} {os : List Nat} (h : InsAt x l k false os) (hl : Up l) (hy : l[k]? = some y) (hlt : x < y) : InsAt x l (k + 1) true (os ++ [x] ++ [y]) := by
 obtain ⟨h1, h2, h3, h4, h5⟩ := h
 have hu := up_take hl hy
 have hx : ∀ z ∈ os, z < x := fun z hz => by
  rcases (h2 z).1 hz with h | h
  ·simp at h
  ·exact h3 rfl z h
 rw [InsAt, take_snoc hy]
 refine ⟨up_snoc (up_snoc h1 hx) (fun z hz => ?_), fun z => ?_, by simp, fun _ => ⟨y, by simp, hlt⟩, by simp at h5 ⊢; omega⟩
 ·rcases List.mem_append.1 hz with h | h
  ·have := hx z h; omega
  ·simp at h; omega
 ·simp only [List.mem_append, h2]
  simp only [Bool.false_eq_true, false_and, false_or, true_and, List.mem_singleton]
  constructor
  ·rintro ((h | h) | h)
   ·exact .inr (.inl h)
   ·exact .inl h
   ·exact .inr (.inr h)
  ·rintro (h | h | h)
   ·exact .inl (.inr h)
   ·exact .inl (.inl h)
   ·exact .inr h
theorem InsAt.past {x : Nat} {l : List Nat} {k y : Nat} {os : List Nat} (h : InsAt x l k true os) (hl : Up l) (hy : l[k]? = some y) : InsAt x l (k + 1) true (os ++ [y]) := by
 obtain ⟨h1, h2, h3, h4, h5⟩ := h
 have hu := up_take hl hy
 obtain ⟨q, hq, hxq⟩ := h4 rfl
 rw [InsAt, take_snoc hy]
 refine ⟨up_snoc h1 (fun z hz => ?_), fun z => ?_, by simp, fun _ => ⟨q, by simp [hq], hxq⟩, by simp at h5 ⊢; omega⟩
 ·rcases (h2 z).1 hz with ⟨_, rfl⟩ | h
  ·have := hu q hq; omega
  ·exact hu z h
 ·simp only [List.mem_append, h2, List.mem_singleton]
  exact ⟨fun h => h.elim (fun h => h.elim .inl (fun h => .inr (.inl h))) (fun h => .inr (.inr h)), fun h => h.elim (fun h => .inl (.inl h)) (fun h => h.elim (fun h => .inl (.inr h)) .inr)⟩
theorem InsAt.done {x : Nat} {l os : List Nat} (h : InsAt x l l.length true os) : Ins x l os := by
 obtain ⟨h1, h2, h3, h4, h5⟩ := h
 rw [List.take_length] at h2
 exact ⟨h1, fun y => by rw [h2]; simp, by simpa using h5⟩
theorem InsAt.last {x : Nat} {l os : List Nat} (h : InsAt x l l.length false os) : Ins x l (os ++ [x]) := by
 obtain ⟨h1, h2, h3, h4, h5⟩ := h
 rw [List.take_length] at h2 h3
 refine ⟨up_snoc h1 (fun z hz => ?_), fun y => ?_, by simp at h5 ⊢; omega⟩
 ·rcases (h2 z).1 hz with h | h
  ·simp at h
  ·exact h3 rfl z h
 ·rw [List.mem_append, h2]
  simp only [Bool.false_eq_true, false_and, false_or, List.mem_singleton]
  exact Or.comm
def Pl (ts : List Tm) (ps : List Nat) : Prop := Up ps ∧ (∀ y : Nat, y ∈ ps ↔ ∃ t ∈ ts, t.1 = (y : Int)) ∧ ps.length ≤ ts.length
theorem Pl.nil : Pl [] [] := ⟨List.Pairwise.nil, by simp, by simp⟩
theorem Pl.skip {ts : List Tm} {ps : List Nat} {t : Tm} (h : Pl ts ps) (ht : t.1 < 0) : Pl (ts ++ [t]) ps := by
 refine ⟨h.1, fun y => ?_, by have := h.2.2; simp; omega⟩
 rw [h.2.1]
 constructor
 ·rintro ⟨q, hq, e⟩
  exact ⟨q, by simp [hq], e⟩
 ·rintro ⟨q, hq, e⟩
  rcases List.mem_append.1 hq with hq | hq
  ·exact ⟨q, hq, e⟩
  ·simp at hq; subst hq; omega
theorem Pl.ins {ts : List Tm} {ps os : List Nat} {t : Tm} {x : Nat} (h : Pl ts ps) (ht : t.1 = (x : Int)) (hi : Ins x ps os) : Pl (ts ++ [t]) os := by
 refine ⟨hi.1, fun y => ?_, by have := h.2.2; have := hi.2.2; simp; omega⟩
 rw [hi.2.1, h.2.1]
 constructor
 ·rintro (rfl | ⟨q, hq, e⟩)
  ·exact ⟨t, by simp, ht⟩
  ·exact ⟨q, by simp [hq], e⟩
 ·rintro ⟨q, hq, e⟩
  rcases List.mem_append.1 hq with hq | hq
  ·exact .inr ⟨q, hq, e⟩
  ·simp at hq; subst hq; exact .inl (by omega)
def pk (ts : List Tm) : List Nat → List Tm
 | [] => []
 | p :: ps => if gsum ts (p : Int) = 0 then pk ts ps else ((p : Int), gsum ts (p : Int)) :: pk ts ps
theorem pk_append (ts : List Tm) (a b : List Nat) : pk ts (a ++ b) = pk ts a ++ pk ts b := by
 induction a with
 | nil => rfl
 | cons x a ih =>
  simp only [List.cons_append, pk, ih]
  split <;> simp
theorem pk_mem {ts : List Tm} {ps : List Nat} {t : Tm} (h : t ∈ pk ts ps) : ∃ p ∈ ps, t = ((p : Int), gsum ts (p : Int)) ∧ gsum ts (p : Int) ≠ 0 := by
 induction ps with
 | nil => simp [pk] at h
 | cons x ps ih =>
  rw [pk] at h
  split at h
  ·obtain ⟨p, hp, h⟩ := ih h
   exact ⟨p, by simp [hp], h⟩
  ·rename_i hne
   rcases List.mem_cons.1 h with rfl | h
   ·exact ⟨x, by simp, rfl, hne⟩
   ·obtain ⟨p, hp, h⟩ := ih h
    exact ⟨p, by simp [hp], h⟩
theorem pk_fm {ts : List Tm} {ps : List Nat} (h : Up ps) : Fm (pk ts ps) := by
 induction ps with
 | nil => exact Fm.nil
 | cons x ps ih =>
  obtain ⟨h1, h2⟩ := List.pairwise_cons.1 h
  have ih := ih h2
  rw [pk]
  split
  ·exact ih
  ·rename_i hne
   refine ⟨List.pairwise_cons.2 ⟨fun t ht => ?_, ih.1⟩, fun t ht => ?_⟩
   ·obtain ⟨p, hp, rfl, _⟩ := pk_mem ht
    have := h1 p hp
    show (x : Int) < (p : Int)
    omega
   ·rcases List.mem_cons.1 ht with rfl | ht
    ·exact ⟨Int.natCast_nonneg x, hne⟩
    ·exact ih.2 t ht
theorem pk_sum0 {ts : List Tm} {ps : List Nat} {c : Nat} (h : Up ps) : gsum (pk ts ps) (c : Int) = if c ∈ ps then gsum ts (c : Int) else 0 := by
 induction ps with
 | nil => rfl
 | cons x ps ih =>
  obtain ⟨h1, h2⟩ := List.pairwise_cons.1 h
  have ih := ih h2
  by_cases hx : x = c
  ·subst hx
   have hn : ¬ x ∈ ps := fun hm => by have := h1 x hm; omega
   rw [if_neg hn] at ih
   rw [if_pos List.mem_cons_self, pk]
   split
   ·rename_i h0
    rw [ih, h0]
   ·rw [gsum, if_pos rfl, ih, Rat.add_zero]
  ·have e : (c ∈ x :: ps) ↔ c ∈ ps := by simp; exact fun e => absurd e.symm hx
   simp only [e]
   rw [← ih, pk]
   split
   ·rfl
   ·rw [gsum, if_neg (by omega), Rat.zero_add]
theorem Pl.sum {ts : List Tm} {ps : List Nat} (h : Pl ts ps) (c : Int) (hc : 0 ≤ c) : gsum (pk ts ps) c = gsum ts c := by
 have e : c = ((c.toNat : Nat) : Int) := by omega
 rw [e, pk_sum0 h.1]
 split
 ·rfl
 ·rename_i hn
  exact (gsum_none (fun t ht he => hn ((h.2.1 _).2 ⟨t, ht, he⟩))).symm
end Go.Proofs.YtofmhfbbedalbaaGreat.Num


namespace Go.Proofs.YtofmhfbbedalbaaGreat
open Go.RowKit Go.Proofs.YtofmhfbbedalbaaGreat.Num
set_option linter.unusedVariables false
set_option linter.unusedSimpArgs false
set_option maxRecDepth 100000
def Spw (B : Nat) (w w' : World) : Prop := Below B w w' ∧ w.heap.size ≤ w'.heap.size ∧ ∀ b j, b < w.heap.size → w'.frozen? ⟨b, j, none⟩ = w.frozen? ⟨b, j, none⟩ ∧
 (w'.cell? ⟨b, j, none⟩ = w.cell? ⟨b, j, none⟩ ∨ ((∃ z : Int, w.cell? ⟨b, j, none⟩ = some (.int .u64 z)) ∧ ∃ z : Int, w'.cell? ⟨b, j, none⟩ = some (.int .u64 z))) ∧
 ∀ cs T fz, w.heap[b]? = some (.cells cs T fz) → ∃ cs', w'.heap[b]? = some (.cells cs' T fz) ∧ (T ≠ 109 → cs' = cs)
theorem ten_two : 2 ≤ 10000 := by omega
theorem Ic.fit {w : World} {v : Value} {x L M : Nat} (h : Ic w v x L) (hx : x < 10000 ^ M) : Ic w v x M := by
 obtain ⟨A, c, e, h1, h2⟩ := h
 exact ⟨A, c, e, h1, cn_length_le ten_two hx⟩
theorem Rf.fit {w : World} {v : Value} {r : Rat} {L M : Nat} (h : Rf w v r L) (hr : Sz 10000 r M) : Rf w v r M := by
 obtain ⟨u, t, e, h1, h2⟩ := h
 exact ⟨u, t, e, h1.fit hr.1, h2.fit hr.2⟩
theorem Rf.sz {w : World} {v : Value} {r : Rat} {L : Nat} (h : Rf w v r L) : Sz 10000 r L := by
 obtain ⟨u, t, e, h1, h2⟩ := h
 exact ⟨h1.iw.lt, h2.iw.lt⟩
theorem Rf.more {w : World} {v : Value} {r : Rat} {L M : Nat} (h : Rf w v r L) (hL : L ≤ M) : Rf w v r M := h.fit (h.sz.more (by omega) hL)
theorem Q_ten : Q ≤ 10000 ^ 5 := by unfold Q; decide
def RxRet (w : World) (r : Rat) (L : Nat) (e : Ending) (w' : World) : Prop := ∃ x : Rx, e = .returned (rx x) ∧ x.r = r ∧ Rf w' (rx x) x.r L ∧ Below w.heap.size w w'
theorem RfRet.to {w : World} {r : Rat} {L M : Nat} {e : Ending} {w' : World} (h : RfRet w r L e w') (hs : Sz 10000 r M) : RxRet w r M e w' := by
 obtain ⟨v, rfl, h, hb⟩ := h
 obtain ⟨s, A, n, c, D, m, d, rfl, h⟩ := h.parts
 exact ⟨⟨s, (A, n, c), (D, m, d), r⟩, rfl, rfl, h.fit hs, hb⟩
theorem rqadd_f {w : World} {a b : Value} {r1 r2 : Rat} {L M : Nat} (ha : Rf w a r1 L) (hb : Rf w b r2 M) (h1 : 1 ≤ L) (hL : L ≤ 4000000000) (hM : M ≤ 4000000000) :
  Calls Tryz.prog 79 #[a, b] w (RxRet w (r1 + r2) (L + M + 1)) :=
 (rqadd_any (L := L + M) (ha.more (by omega)) (hb.more (by omega)) (by omega) (by omega)).mono fun e w' h => h.to (sz_add ten_two ha.sz hb.sz)
theorem rof_f {w : World} {v : Value} {r : Rat} {L : Nat} (h : Ra w v r L) (h1 : 1 ≤ L) (hL : L ≤ 1000000000) :
  Calls Tryz.prog 39 #[v] w (RxRet w r (5 * L)) :=
 (rof_r h h1 hL).mono fun e w' k => k.to (sz_base Q_ten (h.sz h1))
theorem rqsmall_f (w : World) (z : Int) (h1 : -9223372036854775808 ≤ z) (h2 : z ≤ 9223372036854775807) :
  Calls Tryz.prog 50 #[.int .i64 z] w (RxRet w (z : Rat) 6) := (rqsmall_any w z h1 h2).mono fun e w' h => by
 obtain ⟨v, e1, h2, h3⟩ := h
 exact RfRet.to ⟨v, e1, h2, h3⟩ h2.sz
theorem mul_num (a b : Rat) : mkRat (a.num * b.num) (a.den * b.den) = a * b := by rw [Rat.mul_def, Rat.normalize_eq_mkRat]
set_option maxHeartbeats 8000000 in
theorem rqmul_any {w : World} {a b : Value} {r1 r2 : Rat} {L : Nat} (ha : Rf w a r1 L) (hb : Rf w b r2 L) (h1 : 1 ≤ L) (hL : L ≤ 10000000000) :
  Calls Tryz.prog 80 #[a, b] w (RfRet w (r1 * r2) (L + L)) := by
 obtain ⟨s, A, n, c, D, m, d, rfl, ha⟩ := ha.parts
 obtain ⟨t, F, k, f, H, l, h, rfl, hb⟩ := hb.parts
 obtain ⟨b2, hz, y1, y2⟩ := fq_world2 w s t A D F H n c m d k f l h
 have R := hide (And.intro (ha.split.1.step b2) (And.intro (ha.split.2.step b2) (And.intro (hb.split.1.step b2) (hb.split.2.step b2))))
 have P := hide (And.intro y1 y2)
 have B := hide b2
 have Z := hide hz
 have hg0 : w.heap.size ≠ w.heap.size + 1 + 1 := by omega
 have hg1 : w.heap.size + 1 ≠ w.heap.size + 1 + 1 := by omega
 clear ha hb y1 y2 b2 hz
 have HE := hide (mul_num r1 r2)
 have HP := hide (Nat.mul_pos (Nat.pos_of_ne_zero r1.den_nz) (Nat.pos_of_ne_zero r2.den_nz))
 generalize r1.num = a1 at *
 generalize r1.den = e1 at *
 generalize r2.num = a2 at *
 generalize r2.den = e2 at *
 go_enter Tryz.func80, Tryz.ntmps80
 go_wp2_with fail
 generalize hW0 : (((w.alloc (fqbox s (.slice A n c) (.slice D m d))).alloc (fqbox t (.slice F k f) (.slice H l h))).alloc fqblk) = W0 at *
 go_region_held3 (fun W => (W.cell? ⟨w.heap.size, 0, none⟩ = some (.bool s) ∧ W.cell? ⟨w.heap.size, 1, none⟩ = some (.slice A n c) ∧ W.cell? ⟨w.heap.size, 2, none⟩ = some (.slice D m d)) ∧ (W.cell? ⟨w.heap.size + 1, 0, none⟩ = some (.bool t) ∧ W.cell? ⟨w.heap.size + 1, 1, none⟩ = some (.slice F k f) ∧ W.cell? ⟨w.heap.size + 1, 2, none⟩ = some (.slice H l h)))
  (first | exact P.out | exact ⟨⟨cell_rset P.out.1.1 hg0 _ _ _, cell_rset P.out.1.2.1 hg0 _ _ _, cell_rset P.out.1.2.2 hg0 _ _ _⟩, cell_rset P.out.2.1 hg1 _ _ _, cell_rset P.out.2.2.1 hg1 _ _ _, cell_rset P.out.2.2.2 hg1 _ _ _⟩)
  (first
   | (go_at_call 112; refine Calls.mono (qmul_any (a := a1) (b := a2) (L := L) (M := L) ?_ ?_ (by omega) (by omega)) ?_; (focus ((with_reducible exact R.out.1); done)); (focus ((with_reducible exact R.out.2.2.1); done)); rintro e wx ⟨vx, rfl, tx, bx⟩; have TX := hide tx; clear tx; replace P := hide (And.intro (P.out.1.step bx) (P.out.2.step bx)); replace R := hide (And.intro (R.out.1.step bx) (And.intro (R.out.2.1.step bx) (And.intro (R.out.2.2.1.step bx) (R.out.2.2.2.step bx)))); replace Z := hide (Z.out.step bx); replace B := hide (Below.step B.out B.out.size bx); clear bx)
   | (go_at_call 106; refine Calls.mono (imul (L := L) (M := L) (qiden_ic R.out.2.1).iw (qiden_ic R.out.2.2.2).iw (by omega) (by omega)) ?_; rintro e wx ⟨vy, rfl, -, iy, bx⟩; have IY := hide iy; clear iy; replace TX := hide (TX.out.step bx); replace P := hide (And.intro (P.out.1.step bx) (P.out.2.step bx)); replace Z := hide (Z.out.step bx); replace B := hide (Below.step B.out B.out.size bx); clear bx)
   | (go_at_call 70; refine Calls.mono (lowest_q (z := a1 * a2) (y := e1 * e2) (L := L + L) TX.out IY.out HP.out (by omega) (by omega)) ?_; rintro e wx ⟨vx, rfl, tx, bx⟩; obtain ⟨sg, A9, n9, c9, D9, m9, d9, rfl, tx⟩ := tx.parts; obtain ⟨k0, k1, k2, f0, f1, f2, fin⟩ := rf_put (w0 := w) tx (Z.out.step bx) (by omega) (Below.step B.out B.out.size bx); replace P := hide (And.intro (P.out.1.step bx) (P.out.2.step bx))))
 all_goals
  have F9 := hide fin
  clear fin
  go_wp2_with fail
  exact bodyPost_ret (rfret rfl _ _ _ #[.bool sg, .slice A9 n9 c9, .slice D9 m9 d9] rfl rfl F9.out.1) rfl (by rw [← HE.out]; exact F9.out.2)
theorem rqmul_f {w : World} {a b : Value} {r1 r2 : Rat} {L M : Nat} (ha : Rf w a r1 L) (hb : Rf w b r2 M) (h1 : 1 ≤ L) (hL : L ≤ 4000000000) (hM : M ≤ 4000000000) :
  Calls Tryz.prog 80 #[a, b] w (RxRet w (r1 * r2) (L + M)) :=
 (rqmul_any (L := L + M) (ha.more (by omega)) (hb.more (by omega)) (by omega) (by omega)).mono fun e w' h => h.to (sz_mul ha.sz hb.sz)
def Fq (W : World) (g : Nat) (s : Bool) (u t : Value) : Prop := W.heap[g]? = some (fqbox s u t)
theorem Fq.new (w : World) (s : Bool) (u t : Value) : Fq (w.alloc (fqbox s u t)) w.heap.size s u t := heap_alloc_new w _
theorem Fq.lt {W : World} {g : Nat} {s : Bool} {u t : Value} (h : Fq W g s u t) : g < W.heap.size := by unfold Fq at h; exact (Array.getElem?_eq_some_iff.1 h).1
theorem Fq.step {W W' : World} {g : Nat} {s : Bool} {u t : Value} (h : Fq W g s u t) (hb : Below W.heap.size W W') : Fq W' g s u t := (hb.block g h.lt).trans h
theorem Fq.all {W : World} {g : Nat} {s : Bool} {u t : Value} (h : Fq W g s u t) : W.cell? ⟨g, 0, none⟩ = some (.bool s) ∧ W.cell? ⟨g, 1, none⟩ = some u ∧ W.cell? ⟨g, 2, none⟩ = some t ∧ W.frozen? ⟨g, 0, none⟩ = false ∧ W.frozen? ⟨g, 1, none⟩ = false ∧ W.frozen? ⟨g, 2, none⟩ = false :=
 ⟨cell_of_row W g 0 _ _ _ h, cell_of_row W g 1 _ _ _ h, cell_of_row W g 2 _ _ _ h, frozen_of_row W g 0 _ _ h, frozen_of_row W g 1 _ _ h, frozen_of_row W g 2 _ _ h⟩
theorem Fq.put {W : World} {g : Nat} {s : Bool} {u t : Value} (h : Fq W g s u t) (s' : Bool) (u' t' : Value) : Fq (((W.setCell ⟨g, 0, none⟩ (.bool s')).setCell ⟨g, 1, none⟩ u').setCell ⟨g, 2, none⟩ t') g s' u' t' :=
 heap_setCell_same _ g 2 _ _ t' (heap_setCell_same _ g 1 _ _ u' (heap_setCell_same W g 0 _ _ (.bool s') h))
theorem Fb.other {W : World} {g h : Nat} (z : Fb W h) (hne : h ≠ g) (a b c : Value) : Fb (((W.setCell ⟨g, 0, none⟩ a).setCell ⟨g, 1, none⟩ b).setCell ⟨g, 2, none⟩ c) h :=
 ((Below.heap_setCell _ _ c h hne).trans ((Below.heap_setCell _ _ b h hne).trans (Below.heap_setCell _ _ a h hne))).trans z
def NuI (W : World) (g : Nat) : Prop := ∃ cs T fz, W.heap[g]? = some (.cells cs T fz) ∧ ∀ (j : Nat) (z : Int), cs[j]? ≠ some (.int .i64 z)
theorem nui_of {W : World} {g : Nat} {cs : Array Value} {T : TypeId} {fz : Nat × Nat} (h : W.heap[g]? = some (.cells cs T fz)) (hn : cs.toList.all (fun v => match v with | .int .i64 _ => false | _ => true) = true) : NuI W g :=
 ⟨cs, T, fz, h, fun j z hj => by
  have hm := List.all_eq_true.1 hn _ (Array.mem_toList_iff.2 (Array.mem_of_getElem? hj))
  simp at hm⟩
theorem Fq.nui {W : World} {g : Nat} {s : Bool} {A D : Option Addr} {n c m d : Nat} (h : Fq W g s (.slice A n c) (.slice D m d)) : NuI W g := nui_of h rfl
theorem Rd.grownI {W W' : World} {A : Option Addr} {n g : Nat} {xs : List Nat} (h : Rd .i64 W W.heap.size A n xs) (hg : W.grownBy W' (some g)) (hn : NuI W g) : Rd .i64 W' W'.heap.size A n xs := by
 refine ⟨h.1, fun h0 => ?_⟩
 obtain ⟨b, off, e, hb, hc⟩ := h.2 h0
 have hne : b ≠ g := by
  rintro rfl
  obtain ⟨cs, T, fz, hh, hno⟩ := hn
  have h1 := hc 0 h0
  rw [Nat.add_zero, cell_of_row W b off cs T fz hh] at h1
  exact hno _ _ h1
 exact ⟨b, off, e, Nat.lt_of_lt_of_le hb hg.size, fun j hj => (World.cell?_of_block (hg.block b hb (fun e => hne (Option.some.inj e)))).trans (hc j hj)⟩
theorem Ic.grownI {W W' : World} {v : Value} {x L g : Nat} (h : Ic W v x L) (hg : W.grownBy W' (some g)) (hn : NuI W g) : Ic W' v x L := by
 obtain ⟨A, c, e, h1, h2⟩ := h
 exact ⟨A, c, e, h1.grownI hg hn, h2⟩
theorem Rf.grownI {W W' : World} {v : Value} {r : Rat} {L g : Nat} (h : Rf W v r L) (hg : W.grownBy W' (some g)) (hn : NuI W g) : Rf W' v r L := by
 obtain ⟨u, t, e, h1, h2⟩ := h
 exact ⟨u, t, e, h1.grownI hg hn, h2.grownI hg hn⟩
theorem rq_put {w0 w : World} {x : Rx} {L g : Nat} (h : Rf w (rx x) x.r L) (hz : Fb w g) (hg0 : w0.heap.size ≤ g) (hb : Below w0.heap.size w0 w) :
  (w.cell? ⟨g, 0, none⟩ = some (.bool false) ∧ w.cell? ⟨g, 1, none⟩ = some (.slice none 0 0) ∧ w.cell? ⟨g, 2, none⟩ = some (.slice none 0 0) ∧
   w.frozen? ⟨g, 0, none⟩ = false ∧ w.frozen? ⟨g, 1, none⟩ = false ∧ w.frozen? ⟨g, 2, none⟩ = false) ∧
   (((w.setCell ⟨g, 0, none⟩ (.bool x.s)).setCell ⟨g, 1, none⟩ (sv x.u)).setCell ⟨g, 2, none⟩ (sv x.t)).heap[g]? = some (.cells #[.bool x.s, sv x.u, sv x.t] 67 (0, 0)) ∧
    RxRet w0 x.r L (.returned (rx x)) (((w.setCell ⟨g, 0, none⟩ (.bool x.s)).setCell ⟨g, 1, none⟩ (sv x.u)).setCell ⟨g, 2, none⟩ (sv x.t)) :=
 ⟨⟨hz.c0, hz.c1, hz.c2, hz.fz 0, hz.fz 1, hz.fz 2⟩, hz.set _ _ _, x, rfl, rfl, h.grownI (only_put3 w g _ _ _) (nui_of hz rfl), below_put3 hb hg0 _ _ _⟩
set_option maxHeartbeats 8000000 in
theorem vget_f {w : World} {v : Value} {d : List Tx} {L : Nat} {col : Int} (hv : Tv w v d L) (hn : d.length ≤ 1000) (h1 : 1 ≤ L) (hL : L ≤ 100000) :
  Calls Tryz.prog 81 #[v, .int .i64 col] w (RxRet w (gt (tms d) col) (d.length * (5 * L + 1) + 6)) := by
 obtain ⟨A, c, e1, hc1, hc2, hc3⟩ := id hv.1
 obtain ⟨n, hlen⟩ : ∃ n, n = d.length := ⟨_, rfl⟩
 rw [← hlen] at e1 hc1 hn ⊢
 subst e1
 have HV := hide hv
 have HN := hide hlen
 have HB := hide ((Below.refl w.heap.size w).alloc (Nat.le_refl _) fqblk)
 have HZ := hide (Fb.new w)
 clear hv hc3 hlen
 go_enter Tryz.func81, Tryz.ntmps81
 go_wp2_with fail
 refine (rqsmall_f (w.alloc fqblk) 0 (by omega) (by omega)).mono ?_
 rintro e w1 ⟨x, rfl, hx, rg, b1⟩
 have Z1 := hide (HZ.out.step b1)
 have B1 := hide (Below.step HB.out HB.out.size b1)
 have bx := (Below.refl w1.heap.size w1).alloc (Nat.le_refl _) (fqbox x.s (sv x.u) (sv x.t))
 have Z2 := hide (Z1.out.step bx)
 have B2 := hide (Below.step B1.out B1.out.size bx)
 have R2 := hide (rg.step bx)
 have Q2 := hide (Fq.new w1 x.s (sv x.u) (sv x.t))
 have X2 := hide hx
 have lt1 : w.heap.size < w1.heap.size := by have := b1.size; simp at this; omega
 clear bx rg b1 hx Z1 B1 HB HZ
 go_wp2_with fail
 generalize (w1.alloc (fqbox x.s (sv x.u) (sv x.t))) = w2 at *
 generalize w1.heap.size = g5 at *
 have HE := hide (show x.r = gt (tms (d.take 0)) col by rw [X2.out]; simp [tms, gt, gsum])
 clear X2
 go_loopw [6] (fun iv wr => ∃ (k : Nat) (x : Rx), k ≤ n ∧ iv = .int .i64 (k : Int) ∧ Hid (Below w.heap.size w wr) ∧ Hid (Fb wr w.heap.size) ∧ Fq wr g5 x.s (sv x.u) (sv x.t) ∧ Hid (x.r = gt (tms (d.take k)) col) ∧ Hid (Rf wr (rx x) x.r (k * (5 * L + 1) + 6))) (fun iv _ => n - (intOf iv).toNat)
 case atStart => exact ⟨0, x, Nat.zero_le _, rfl, B2, Z2, Q2.out, HE, by simpa using R2⟩
 case round =>
  obtain ⟨k, y, hk, rfl, B, Z, Qb, E, R⟩ := hrel
  by_cases hlt : k < n
  ·obtain ⟨t, ht⟩ := len_of (d := d) (k := k) (by rw [← HN.out]; exact hlt)
   have ET := hide (gt_take ht col)
   have HK := hide (show k * (5 * L + 1) + 6 ≤ 4000000000 by have := Nat.mul_le_mul (show k ≤ 1000 by omega) (show 5 * L + 1 ≤ 500001 by omega); omega)
   have HM := hide (show k * (5 * L + 1) + 6 + 5 * L + 1 = (k + 1) * (5 * L + 1) + 6 by rw [Nat.add_mul k 1]; omega)
   have HR := hide ((HV.out.2 t (List.mem_of_getElem? ht)).step B.out)
   obtain ⟨b, off, rfl, hb, hc⟩ := (HV.out.1.step B.out).get ht
   have c0 := hc 0 _ rfl
   have c1 := hc 1 _ rfl
   have c2 := hc 2 _ rfl
   have c3 := hc 3 _ rfl
   rw [Nat.add_zero] at c0
   have l0 : (0 : Int) ≤ (k : Int) := by omega
   have l1 : (k : Int) < (n : Int) := by omega
   clear hc hb ht
   by_cases hq : t.c = col ∧ 0 ≤ col
   ·rw [if_pos hq] at ET
    have t1 : (t.c == col) = true := beq_iff_eq.2 hq.1
    have t2 : decide (0 ≤ col) = true := decide_eq_true hq.2
    have b8 := (Below.refl wr.heap.size wr).drew
    replace HR := hide (HR.out.step b8)
    replace B := hide (Below.step B.out B.out.size b8)
    replace Z := hide (Z.out.step b8)
    replace R := hide (R.out.step b8)
    have Q8 := hide (Qb.step b8)
    clear hq b8 Qb
    go_wp2_with fail
    obtain ⟨p0, p1, p2, f0, f1, f2⟩ := Q8.out.all
    replace c0 := show wr.drew.cell? _ = _ from c0
    replace c1 := show wr.drew.cell? _ = _ from c1
    replace c2 := show wr.drew.cell? _ = _ from c2
    replace c3 := show wr.drew.cell? _ = _ from c3
    go_region_with (first
     | (go_at_call 39; refine Calls.mono (rof_f HR.out h1 (by omega)) ?_; rintro e wa ⟨ya, rfl, ha, ra, bx⟩; have Q7 := hide (Q8.out.step bx); obtain ⟨p0, p1, p2, f0, f1, f2⟩ := Q7.out.all; have R7 := hide (R.out.step bx); have B7 := hide (Below.step B.out B.out.size bx); have Z7 := hide (Z.out.step bx); have A7 := hide ra; have HA := hide ha; clear ha ra bx)
     | (go_at_call 79; refine Calls.mono (rqadd_f R7.out A7.out (by omega) HK.out (by omega)) ?_; rintro e wx ⟨z, rfl, hz, rz, bx⟩; have Q5 := hide (Q7.out.step bx); obtain ⟨p0, p1, p2, f0, f1, f2⟩ := Q5.out.all; have B5 := hide (Below.step B7.out B7.out.size bx); have Z5 := hide (Z7.out.step bx); have RZ := hide (rz.more (M := (k + 1) * (5 * L + 1) + 6) (by have := HM.out; omega)); have HZ := hide hz; clear hz rz bx))
    all_goals
     have only := only_put3 wx g5 (.bool z.s) (sv z.u) (sv z.t)
     have bz2 := hide (below_put3 B5.out (Nat.le_of_lt lt1) (.bool z.s) (sv z.u) (sv z.t))
     have zz := hide (Z5.out.other (g := g5) (by omega) (.bool z.s) (sv z.u) (sv z.t))
     have qq := hide (Q5.out.put z.s (sv z.u) (sv z.t))
     have ee := hide (show z.r = gt (tms (d.take (k + 1))) col by rw [HZ.out, HA.out, ET.out, E.out])
     have rr := hide (RZ.out.grownI only Q5.out.nui)
     clear only p0 p1 p2 f0 f1 f2
     go_wp2_with fail
     exact ⟨⟨k + 1, z, by omega, by go_num, bz2, zz, qq.out, ee, rr⟩, by simp [intOf]; omega⟩
   ·have ET := hide (ET.out.trans (by rw [if_neg hq, Rat.add_zero]))
    have RN := hide (R.out.more (M := (k + 1) * (5 * L + 1) + 6) (by rw [← HM.out]; omega))
    have EN := hide (E.out.trans ET.out.symm)
    by_cases hq1 : t.c = col
    ·have t1 : (t.c == col) = true := beq_iff_eq.2 hq1
     have t2 : decide (0 ≤ col) = false := decide_eq_false (fun h => hq ⟨hq1, h⟩)
     clear hq hq1
     go_wp2_with fail
     exact ⟨⟨k + 1, y, by omega, by go_num, B, Z, Qb, EN, RN⟩, by simp [intOf]; omega⟩
    ·have t1 : (t.c == col) = false := beq_eq_false_iff_ne.2 hq1
     clear hq hq1
     go_wp2_with fail
     exact ⟨⟨k + 1, y, by omega, by go_num, B, Z, Qb, EN, RN⟩, by simp [intOf]; omega⟩
  ·obtain rfl : k = n := by omega
   obtain ⟨p0, p1, p2, f0, f1, f2⟩ := Qb.all
   have e9 := hide (show y.r = gt (tms d) col by rw [E.out, List.take_of_length_le (by rw [← HN.out]; exact Nat.le_refl _)])
   obtain ⟨⟨k0, k1, k2, q0, q1, q2⟩, fin⟩ := rq_put R.out Z.out (Nat.le_refl _) B.out
   rw [e9.out] at fin
   have F := hide fin
   clear fin E R Z B Qb HE R2 B2 Z2 Q2
   go_wp2_with fail
   exact bodyPost_ret (rfret rfl _ _ _ #[.bool y.s, sv y.u, sv y.t] rfl rfl F.out.1) rfl F.out.2
theorem only_put2 (W : World) (g : Nat) (a b : Value) : W.grownBy ((W.setCell ⟨g, 0, none⟩ a).setCell ⟨g, 1, none⟩ b) (some g) :=
 only_set (p := ⟨g, 1, none⟩) (only_set (p := ⟨g, 0, none⟩) (only_refl W (some g)) rfl a) rfl b
def ZwRet (w : World) (z : Int) (L : Nat) (e : Ending) (w' : World) : Prop := ∃ A n c, e = .returned (zv (decide (z < 0)) (.slice A n c)) ∧ Cw w' (.slice A n c) z.natAbs L ∧ Wr w' w.heap.size (A, n, c) ∧ Below w.heap.size w w'
set_option maxHeartbeats 2000000 in
theorem qto_w {w : World} {v : Value} {z : Int} {L : Nat} (h : Qi w v z L) (hL : L ≤ 100000000000) :
  Calls Tryz.prog 74 #[v] w (ZwRet w z L) := by
 obtain ⟨u, rfl, hc⟩ := h
 obtain ⟨A, n, c, rfl⟩ := hc.iw.slice
 obtain ⟨s, hs⟩ : ∃ s, decide (z < 0) = s := ⟨_, rfl⟩
 unfold ZwRet
 rw [hs]
 have a1 : Below w.heap.size w (w.alloc (qbox s (.slice A n c))) := (Below.refl _ _).alloc (Nat.le_refl _) _
 have a2 : Below w.heap.size w ((w.alloc (qbox s (.slice A n c))).alloc zblk) := a1.alloc (by simp) _
 have p0 : ((w.alloc (qbox s (.slice A n c))).alloc zblk).cell? ⟨w.heap.size, 0, none⟩ = some (.bool s) := by go_simp
 have p1 : ((w.alloc (qbox s (.slice A n c))).alloc zblk).cell? ⟨w.heap.size, 1, none⟩ = some (.slice A n c) := by go_simp
 have hz : Zb ((w.alloc (qbox s (.slice A n c))).alloc zblk) (w.heap.size + 1) := by have h := Zb.new (w.alloc (qbox s (.slice A n c))); simpa using h
 have HS := hide (show w.heap.size + 1 < ((w.alloc (qbox s (.slice A n c))).alloc zblk).heap.size by simp)
 have H := hide (hc.step a2).iw
 have HA := hide a2
 have HZ := hide hz
 clear hc a1 a2 hz
 go_enter Tryz.func74, Tryz.ntmps74
 go_wp2_with fail
 generalize hW0 : (w.alloc (qbox s (.slice A n c))).alloc zblk = W0 at *
 have p0d : W0.drew.cell? ⟨w.heap.size, 0, none⟩ = some (.bool s) := p0
 have p1d : W0.drew.cell? ⟨w.heap.size, 1, none⟩ = some (.slice A n c) := p1
 have C := hide (to_l (w := W0.drew) (x := z.natAbs) H.out hL)
 go_region_held3 (fun W => W.cell? ⟨w.heap.size, 0, none⟩ = some (.bool s) ∧ W.cell? ⟨w.heap.size, 1, none⟩ = some (.slice A n c))
  (first
   | with_reducible exact ⟨p0d, p1d⟩
   | with_reducible exact ⟨cell_keep p0d b1, cell_keep p1d b1⟩
   | with_reducible exact ⟨cell_zset (cell_keep p0d b1) (by simp <;> omega) _ _, cell_zset (cell_keep p1d b1) (by simp <;> omega) _ _⟩)
  (first | (go_at_call 75; (with_reducible refine C.out.mono ?_); rintro e w1 ⟨r, rfl, o1, c1, b1⟩; obtain ⟨A1, n1, c2, rfl, k0, k1, f0, f1, fin⟩ := to_fit (w0 := w) (z := z) c1 (HZ.out.step HS.out (below_of_drew b1)) (by omega) (HA.out.trans ((below_of_drew b1).mono HA.out.size)) hs; have ZZ := hide (HZ.out.step HS.out (below_of_drew b1)); have CC := hide (c1.zset ZZ.out (.bool s) (.slice A1 n1 c2)); have WW := hide ((o1.wr.mono (B' := w.heap.size) HA.out.size).grown (only_put2 w1 (w.heap.size + 1) (.bool s) (.slice A1 n1 c2)) (nu_of ZZ.out rfl)); clear o1 c1))
 all_goals
  obtain ⟨fh, rr, fe, fl, fb⟩ := fin
  have F := hide (And.intro fh fb)
  clear fh fe fl fb
  go_wp2_with fail
  exact bodyPost_ret (zret rfl _ _ _ #[.bool s, .slice A1 n1 c2] rfl rfl F.out.1) rfl ⟨A1, n1, c2, rfl, CC.out, WW.out, F.out.2⟩
set_option maxHeartbeats 4000000 in
theorem rfto_g {w : World} {v : Value} {r : Rat} {L : Nat} (h : Rf w v r L) (hL : L ≤ 100000000000) :
  Calls Tryz.prog 42 #[v] w (RgRet w r L) := by
 obtain ⟨u, t, rfl, hu, ht⟩ := h
 obtain ⟨A, n, c, rfl⟩ := hu.iw.slice
 obtain ⟨D, m, d, rfl⟩ := ht.iw.slice
 obtain ⟨s, hs0⟩ : ∃ s, decide (r.num < 0) = s := ⟨_, rfl⟩
 have RC := hide (show ∀ W a b, Cw W a r.num.natAbs L → Cw W b r.den L → Rc W (rv s a b) r L from fun W a b h1 h2 => ⟨a, b, by rw [hs0], h1, h2⟩)
 have hq0 : Qi w (zv (decide (r.num < 0)) (.slice A n c)) r.num L := ⟨_, rfl, hu⟩
 generalize r.num = z at *
 generalize r.den = q at *
 rw [hs0] at hq0 ⊢
 have hs := hide hs0
 obtain ⟨b2, hz, p0, p1, p2⟩ := fq_world1 w s A D n c m d
 have nq : Qi ((w.alloc (fqbox s (.slice A n c) (.slice D m d))).alloc rblk).drew (zv s (.slice A n c)) z L := hq0.step b2
 have nt : Iw ((w.alloc (fqbox s (.slice A n c) (.slice D m d))).alloc rblk).drew (.slice D m d) q L := (ht.step b2).iw
 have B := hide b2
 have Z := hide hz
 have P := hide (And.intro p0 (And.intro p1 p2))
 have NQ := hide nq
 have NT := hide nt
 clear hu ht b2 hz hq0 hs0 nq nt p0 p1 p2
 go_enter Tryz.func42, Tryz.ntmps42
 go_wp2_with fail
 generalize hW0 : ((w.alloc (fqbox s (.slice A n c) (.slice D m d))).alloc rblk) = W0 at *
 go_region_held3 (fun W => W.cell? ⟨w.heap.size, 0, none⟩ = some (.bool s) ∧ W.cell? ⟨w.heap.size, 1, none⟩ = some (.slice A n c) ∧ W.cell? ⟨w.heap.size, 2, none⟩ = some (.slice D m d))
  (first | exact P.out | exact ⟨cell_rset P.out.1 (by simp) _ _ _, cell_rset P.out.2.1 (by simp) _ _ _, cell_rset P.out.2.2 (by simp) _ _ _⟩)
  (first
    | (go_at_call 74; refine Calls.mono (qto_w (z := z) (L := L) NQ.out hL) ?_; rintro e wx ⟨A9, n9, c9, rfl, cu, wu, bx⟩; rw [hs.out]; have CU := hide cu; have WU := hide (wu.mono (B' := w.heap.size) B.out.size); replace NT := hide (NT.out.step bx); replace P := hide (And.intro (cell_keep P.out.1 bx) (And.intro (cell_keep P.out.2.1 bx) (cell_keep P.out.2.2 bx))); replace Z := hide (Z.out.step bx); replace B := hide (Below.step B.out B.out.size bx); clear cu wu bx)
    | (go_at_call 75; refine Calls.mono (to_l (x := q) (L := L) NT.out hL) ?_; rintro e wx ⟨r9, rfl, o9, cr, bx⟩; obtain ⟨D9, d9, rfl, -⟩ := id cr; obtain ⟨⟨k0, k1, k2, f0, f1, f2⟩, fin⟩ := rg_put (w0 := w) (x := ⟨s, (A9, n9, c9), (D9, (cn Q q).length, d9), r⟩) (L := L) ⟨RC.out wx _ _ (CU.out.step bx) cr, WU.out.step bx, o9.wr.mono (B' := w.heap.size) B.out.size⟩ (Z.out.step bx) (by omega) (Below.step B.out B.out.size bx); replace P := hide (And.intro (cell_keep P.out.1 bx) (And.intro (cell_keep P.out.2.1 bx) (cell_keep P.out.2.2 bx)))))
 all_goals
  have F9 := hide fin
  clear fin
  go_wp2_with fail
  exact bodyPost_ret (rret rfl _ _ _ _ rfl rfl F9.out.1) rfl F9.out.2
theorem own_ow_ne {α : Type} {enc : α → List Value} {k : IntKind} {n : Nat} {e T : TypeId} {W : World} {B B' : Nat} {v v' : Value} {xs : List Nat} {d : List α} (h1 : Own k e W B v xs) (h2 : Ow T enc n W B' v' d) (hne : e ≠ T) : v.ownBlock = none ∨ v.ownBlock ≠ v'.ownBlock := by
 rcases h1 with ⟨rfl, _⟩ | ⟨g, cap, C, rfl, hB, ⟨cs, hh, _⟩, _⟩
 ·exact .inl rfl
 ·refine .inr (fun hq => ?_)
  rcases h2.form with ⟨rfl, _⟩ | ⟨g', cap', cur, rfl, _, _, hh', _⟩
  ·cases hq
  ·simp [Value.ownBlock] at hq
   subst hq
   rw [hh] at hh'
   injection hh' with hh'
   injection hh' with _ ht
   exact hne ht
theorem int_term : 3 ≠ 59 := by decide
set_option maxHeartbeats 8000000 in
theorem ins_c {w : World} {v : Value} {l : List Nat} {x B0 : Nat} (hl : Own .i64 3 w B0 v l) (hB0 : B0 ≤ w.heap.size) (hu : Up l) (hn : l.length ≤ 100000) :
  Calls Tryz.prog 117 #[v, .int .i64 (x : Int)] w fun e w' => ∃ v' os, e = .returned v' ∧ Own .i64 3 w' B0 v' os ∧ Ins x l os ∧ Below w.heap.size w w' := by
 obtain ⟨A, c, e1, hnc, hcm, hr, _⟩ := hl.form
 obtain ⟨n, hlen⟩ : ∃ n, n = l.length := ⟨_, rfl⟩
 rw [← hlen] at e1 hr hn hnc
 subst e1
 have HR := hide hr
 have HL := hide hl
 have HU := hide hu
 have HN := hide hlen
 obtain ⟨i0, hi, hz0, hz1, hz2⟩ := info_parts info_int
 clear hl hu hr hlen
 go_enter Tryz.func117, Tryz.ntmps117
 go_wp2_with fail
 go_loopw [5, 6, 7] (fun ov dv iv wr => ∃ (k : Nat) (done : Bool) (os : List Nat), k ≤ n ∧ iv = .int .i64 (k : Int) ∧ dv = .bool done ∧ Hid (Below w.heap.size w wr) ∧ Hid (Own .i64 3 wr w.heap.size ov os) ∧ Hid (InsAt x l k done os)) (fun _ _ iv _ => n - (intOf iv).toNat)
 case atStart => exact ⟨0, false, [], Nat.zero_le _, rfl, rfl, hide ((Below.refl _ _).alloc (Nat.le_refl _) _), hide (own_empty .i64 3 w w.heap.size (Nat.le_refl _)), hide (InsAt.zero x l)⟩
 case round =>
  obtain ⟨k, done, os, hk, rfl, rfl, B, O, I⟩ := hrel
  have LEN := hide (show os.length + 1 + 1 ≤ 1000000 by have := I.out.2.2.2.2; cases done <;> simp at this <;> omega)
  by_cases hlt : k < n
  ·obtain ⟨b, off, rfl, hb, hc⟩ := HR.out.at_ hlt
   obtain ⟨y, hy⟩ := len_of (d := l) (k := k) (by rw [← HN.out]; exact hlt)
   rw [show l.getD k 0 = y by rw [List.getD_eq_getElem?_getD, hy]; rfl] at hc
   have HC := hide (show ∀ W, Below w.heap.size w W → W.cell? ⟨b, off + k, none⟩ = some (.int .i64 (y : Int)) from fun W h => (h.cell (p := ⟨b, off + k, none⟩) hb).trans hc)
   have c0 := HC.out wr B.out
   have l0 : (0 : Int) ≤ (k : Int) := by omega
   have l1 : (k : Int) < (n : Int) := by omega
   have BS := hide B.out.size
   clear hc hb HR
   by_cases hq : y = x
   ·have t1 : ((y : Int) == (x : Int)) = true := beq_iff_eq.2 (by omega)
    have FIN := hide (HL.out.below B.out (Nat.le_refl _))
    have INS := hide (Ins.self (x := x) HU.out (by rw [← hq]; exact List.mem_of_getElem? hy))
    clear hq hy
    go_wp2_with fail
    go_ret
    exact ⟨_, l, rfl, FIN.out, INS.out, B.out⟩
   ·have t1 : ((y : Int) == (x : Int)) = false := beq_eq_false_iff_ne.2 (by omega)
    cases done with
    | true =>
     have I2 := hide (I.out.past HU.out hy)
     clear hq hy I HL
     go_wp2_with (at_builtin; go_must (refine wpList_push rfl (.tmp 36) (.tmp 41) 47 rfl Tryz.underlying47 hi hz0 hz1 hz2 rfl wr w.heap.size _ os y O.out rfl rfl (by have := LEN.out; omega) (by decide) BS.out ?_); intro v' w' ho hg; have O2 := hide ho; have B2 := hide (push_below B.out O.out hg.1 BS.out); clear ho hg)
     exact ⟨⟨k + 1, true, os ++ [y], by omega, by go_num, rfl, B2, O2, I2⟩, by simp [intOf]; omega⟩
    | false =>
     by_cases hx : x < y
     ·have t2 : decide ((x : Int) < (y : Int)) = true := decide_eq_true (by omega)
      have t3 : decide (x < y) = true := decide_eq_true hx
      have I2 := hide (I.out.here HU.out hy hx)
      clear hq hy I hx HL
      go_wp2_with (first
       | (at_builtin; refine wpList_push rfl (.tmp 32) (.tmp 34) 47 rfl Tryz.underlying47 hi hz0 hz1 hz2 rfl wr w.heap.size _ os x O.out rfl rfl (by have := LEN.out; omega) (by decide) BS.out ?_; intro v' w' ho hg; have O2 := hide ho; have B2 := hide (push_below B.out O.out hg.1 BS.out); have c0 := HC.out w' B2.out; have BS2 := hide B2.out.size; clear ho hg)
       | (at_builtin; refine wpList_push rfl (.tmp 36) (.tmp 41) 47 rfl Tryz.underlying47 hi hz0 hz1 hz2 rfl _ w.heap.size _ (os ++ [x]) y O2.out rfl rfl (by have := LEN.out; simp; omega) (by decide) BS2.out ?_; intro v3 w3 ho hg; have O3 := hide ho; have B3 := hide (push_below B2.out O2.out hg.1 BS2.out); clear ho hg))
      exact ⟨⟨k + 1, true, os ++ [x] ++ [y], by omega, by go_num, rfl, B3, O3, I2⟩, by simp [intOf]; omega⟩
     ·have t2 : decide ((x : Int) < (y : Int)) = false := decide_eq_false (by omega)
      have t3 : decide (x < y) = false := decide_eq_false hx
      have I2 := hide (I.out.less HU.out hy (by omega))
      clear hq hy I hx HL
      go_wp2_with (at_builtin; go_must (refine wpList_push rfl (.tmp 36) (.tmp 41) 47 rfl Tryz.underlying47 hi hz0 hz1 hz2 rfl wr w.heap.size _ os y O.out rfl rfl (by have := LEN.out; omega) (by decide) BS.out ?_); intro v' w' ho hg; have O2 := hide ho; have B2 := hide (push_below B.out O.out hg.1 BS.out); clear ho hg)
      exact ⟨⟨k + 1, false, os ++ [y], by omega, by go_num, rfl, B2, O2, I2⟩, by simp [intOf]; omega⟩
  ·obtain rfl : k = n := by omega
   have BS := hide B.out.size
   cases done with
   | true =>
    have I2 := hide (show Ins x l os from (show InsAt x l l.length true os by rw [← HN.out]; exact I.out).done)
    have O2 := hide (O.out.mono (B' := B0) hB0)
    clear I HL O HR
    go_wp2_with fail
    go_ret
    exact ⟨_, os, rfl, O2.out, I2.out, B.out⟩
   | false =>
    have I2 := hide (show Ins x l (os ++ [x]) from (show InsAt x l l.length false os by rw [← HN.out]; exact I.out).last)
    clear I HL HR
    go_wp2_with (at_builtin; go_must (refine wpList_push rfl (.tmp 45) (.tmp 47) 47 rfl Tryz.underlying47 hi hz0 hz1 hz2 rfl wr w.heap.size _ os x O.out rfl rfl (by have := LEN.out; omega) (by decide) BS.out ?_); intro v' w' ho hg; have O2 := hide (ho.mono (B' := B0) hB0); have B2 := hide (push_below B.out O.out hg.1 BS.out); clear ho hg)
    go_ret
    exact ⟨_, os ++ [x], rfl, O2.out, I2.out, B2.out⟩
set_option maxHeartbeats 4000000 in
theorem places_c {w : World} {v : Value} {d : List Tx} (hv : Lr et 4 w v d) (hn : d.length ≤ 100000) :
  Calls Tryz.prog 90 #[v] w fun e w' => ∃ v' ps, e = .returned v' ∧ Own .i64 3 w' w.heap.size v' ps ∧ Pl (tms d) ps ∧ Below w.heap.size w w' := by
 obtain ⟨A, c, e1, hc1, hc2, hc3⟩ := id hv
 obtain ⟨n, hlen⟩ : ∃ n, n = d.length := ⟨_, rfl⟩
 rw [← hlen] at e1 hc1 hn
 subst e1
 have HV := hide hv
 have HN := hide hlen
 clear hv hc3 hlen
 go_enter Tryz.func90, Tryz.ntmps90
 go_wp2_with fail
 go_loopw [3, 4] (fun ov iv wr => ∃ (k : Nat) (ps : List Nat), k ≤ n ∧ iv = .int .i64 (k : Int) ∧ Hid (Below w.heap.size w wr) ∧ Hid (Own .i64 3 wr w.heap.size ov ps) ∧ Hid (Pl (tms (d.take k)) ps)) (fun _ iv _ => n - (intOf iv).toNat)
 case atStart => exact ⟨0, [], Nat.zero_le _, rfl, hide ((Below.refl _ _).alloc (Nat.le_refl _) _), hide (own_empty .i64 3 w w.heap.size (Nat.le_refl _)), hide Pl.nil⟩
 case round =>
  obtain ⟨k, ps, hk, rfl, B, O, I⟩ := hrel
  by_cases hlt : k < n
  ·obtain ⟨t, ht⟩ := len_of (d := d) (k := k) (by rw [← HN.out]; exact hlt)
   obtain ⟨b, off, rfl, hb, hc⟩ := (HV.out.step B.out).get ht
   have c0 := hc 0 _ rfl
   rw [Nat.add_zero] at c0
   have l0 : (0 : Int) ≤ (k : Int) := by omega
   have l1 : (k : Int) < (n : Int) := by omega
   have HT := hide (tms_snoc ht)
   clear hc hb ht
   by_cases h0 : 0 ≤ t.c
   ·have t1 : decide (0 ≤ t.c) = true := decide_eq_true h0
    obtain ⟨x, hx⟩ : ∃ x : Nat, t.c = (x : Int) := ⟨t.c.toNat, by omega⟩
    have IC := hide (ins_c (x := x) O.out B.out.size I.out.1 (by have := I.out.2.2; rw [tms_len, List.length_take] at this; omega))
    rw [hx] at c0 t1
    clear h0
    go_wp2_with fail
    refine IC.out.mono ?_
    rintro e w1 ⟨v', os, rfl, o1, i1, b1⟩
    have O1 := hide o1
    have I1 := hide (show Pl (tms (d.take (k + 1))) os by rw [HT.out]; exact I.out.ins hx i1)
    have B1 := hide (Below.step B.out B.out.size b1)
    clear o1 i1 b1 IC c0
    go_wp2_with fail
    exact ⟨⟨k + 1, os, by omega, by go_num, B1, O1, I1⟩, by simp [intOf]; omega⟩
   ·have t1 : decide (0 ≤ t.c) = false := decide_eq_false h0
    have I1 := hide (show Pl (tms (d.take (k + 1))) ps by rw [HT.out]; exact I.out.skip (by show t.c < 0; omega))
    clear h0
    go_wp2_with fail
    exact ⟨⟨k + 1, ps, by omega, by go_num, B, O, I1⟩, by simp [intOf]; omega⟩
  ·obtain rfl : k = n := by omega
   have I1 := hide (show Pl (tms d) ps by have h := I.out; rwa [List.take_of_length_le (by rw [← HN.out]; exact Nat.le_refl _)] at h)
   clear HV I
   go_wp2_with fail
   go_ret
   exact ⟨_, ps, rfl, O.out, I1.out, B.out⟩
theorem own_cell {W : World} {B b off n c k x : Nat} {xs : List Nat} (h : Own .i64 3 W B (.slice (some ⟨b, off, none⟩) n c) xs) (hk : xs[k]? = some x) : W.cell? ⟨b, off + k, none⟩ = some (.int .i64 (x : Int)) := by
 obtain ⟨A', c', e, _, _, hr, _⟩ := h.form
 injection e with e1 e2 e3
 have hlt := (List.getElem?_eq_some_iff.1 hk).1
 obtain ⟨b', o', e4, _, hc⟩ := hr.at_ hlt
 rw [← e1] at e4
 injection e4 with e5
 injection e5 with e6 e7
 subst e6 e7
 rw [hc, List.getD_eq_getElem?_getD, hk]
 rfl
theorem fq_off {W W' : World} {B g : Nat} {v : Value} {d : List Tx} {s : Bool} {u t : Value} (hT : Ow 59 et 4 W B v d) (hq : Fq W g s u t) (hg : W.grownBy W' v.ownBlock) : Fq W' g s u t := by
 refine (hg.block g hq.lt (fun he => ?_)).trans hq
 rcases hT.form with ⟨rfl, _⟩ | ⟨g', cap', cur, rfl, _, _, hh', _⟩
 ·cases he
 ·simp [Value.ownBlock] at he
  subst he
  unfold Fq at hq
  rw [hq] at hh'
  injection hh' with hh'
  injection hh' with _ ht
  exact absurd ht (by decide)
theorem cmpR_ne {r : Rat} (h : r ≠ 0) : (cmpR r 0 != 0) = true := by
 unfold cmpR
 by_cases h1 : r < 0
 ·rw [if_pos h1]; rfl
 ·rw [if_neg h1]
  by_cases h2 : 0 < r
  ·rw [if_pos h2]; rfl
  ·exact absurd (by grind) h
theorem pk_snoc {ts : List Tm} {ps : List Nat} {k p : Nat} (h : ps[k]? = some p) : pk ts (ps.take (k + 1)) = pk ts (ps.take k) ++ (if gsum ts (p : Int) = 0 then [] else [((p : Int), gsum ts (p : Int))]) := by
 rw [take_snoc h, pk_append]
 simp only [pk]
def C4 (W : World) (b j g : Nat) (p : Nat) (x : Rx) : Prop := W.cell? ⟨b, j, none⟩ = some (.int .i64 (p : Int)) ∧ W.cell? ⟨g, 0, none⟩ = some (.bool x.s) ∧ W.cell? ⟨g, 1, none⟩ = some (sv x.u) ∧ W.cell? ⟨g, 2, none⟩ = some (sv x.t)
theorem C4.cells {W : World} {b j g p : Nat} {x : Rx} (h : C4 W b j g p x) : W.cell? ⟨b, j, none⟩ = some (.int .i64 (p : Int)) ∧ W.cell? ⟨g, 0, none⟩ = some (.bool x.s) ∧ W.cell? ⟨g, 1, none⟩ = some (sv x.u) ∧ W.cell? ⟨g, 2, none⟩ = some (sv x.t) := h
theorem C4.step {W W' : World} {b j g p : Nat} {x : Rx} (h : C4 W b j g p x) (hb : Below W.heap.size W W') : C4 W' b j g p x := ⟨cell_keep h.1 hb, cell_keep h.2.1 hb, cell_keep h.2.2.1 hb, cell_keep h.2.2.2 hb⟩
theorem C4.of {W : World} {b off n c k g p B : Nat} {x : Rx} {xs : List Nat} (h : Own .i64 3 W B (.slice (some ⟨b, off, none⟩) n c) xs) (hk : xs[k]? = some p) (hq : Fq W g x.s (sv x.u) (sv x.t)) : C4 W b (off + k) g p x := ⟨own_cell h hk, hq.all.1, hq.all.2.1, hq.all.2.2.1⟩
theorem Lw.grownU {W W' : World} {v : Value} {xs : List Nat} {L g : Nat} (h : Lw W v xs L) (hg : W.grownBy W' (some g)) (hn : Nu W g) : Lw W' v xs L := by
 obtain ⟨A, n, c, e, h1, h2⟩ := h
 exact ⟨A, n, c, e, h1.grownU hg hn, h2⟩
theorem Lw.grownF {W W' : World} {A : Option Addr} {n c L : Nat} {xs : List Nat} {row : Option Nat} (h : Lw W (.slice A n c) xs L) (hg : W.grownBy W' row) (hn : 0 < n → ∀ B, A = some B → some B.block ≠ row) : Lw W' (.slice A n c) xs L := by
 obtain ⟨D, m, f, e, ⟨h1, h3⟩, h2⟩ := h
 injection e with e1 e2 e3
 subst e1 e2 e3
 refine ⟨A, n, c, rfl, ⟨h1, fun h0 => ?_⟩, h2⟩
 obtain ⟨b, off, e, hb, hc⟩ := h3 h0
 exact ⟨b, off, e, Nat.lt_of_lt_of_le hb hg.size, fun j hj => (World.cell?_of_block (hg.block b hb (hn h0 _ e))).trans (hc j hj)⟩
set_option maxHeartbeats 2000000 in
theorem zcopy_w {w : World} {s : Bool} {u : Value} {xs : List Nat} {L : Nat} (hu : Lw w u xs L) (hL : L ≤ 17592186044000) :
  Calls Tryz.prog 65 #[zv s u] w fun e w' => ∃ A n c, e = .returned (zv s (.slice A n c)) ∧ Lw w' (.slice A n c) xs L ∧ Wr w' w.heap.size (A, n, c) ∧ Below w.heap.size w w' := by
 obtain ⟨A, n, c, rfl⟩ := hu.nw.slice
 have a1 : Below w.heap.size w (w.alloc (zbox s (.slice A n c))) := (Below.refl _ _).alloc (Nat.le_refl _) _
 have a2 : Below w.heap.size w ((w.alloc (zbox s (.slice A n c))).alloc zblk) := a1.alloc (by simp) _
 have p0 : ((w.alloc (zbox s (.slice A n c))).alloc zblk).cell? ⟨w.heap.size, 0, none⟩ = some (.bool s) := by go_simp
 have p1 : ((w.alloc (zbox s (.slice A n c))).alloc zblk).cell? ⟨w.heap.size, 1, none⟩ = some (.slice A n c) := by go_simp
 have hz : Zb ((w.alloc (zbox s (.slice A n c))).alloc zblk) (w.heap.size + 1) := by have h := Zb.new (w.alloc (zbox s (.slice A n c))); simpa using h
 have HS := hide (show w.heap.size + 1 < ((w.alloc (zbox s (.slice A n c))).alloc zblk).heap.size by simp)
 have H := hide (hu.step a2)
 have HA := hide a2
 have HZ := hide hz
 clear hu a1 a2 hz
 go_enter Tryz.func65, Tryz.ntmps65
 go_wp2_with fail
 generalize hW0 : (w.alloc (zbox s (.slice A n c))).alloc zblk = W0 at *
 have p0d : W0.drew.cell? ⟨w.heap.size, 0, none⟩ = some (.bool s) := p0
 have p1d : W0.drew.cell? ⟨w.heap.size, 1, none⟩ = some (.slice A n c) := p1
 have C := hide (copy_l (w := W0.drew) H.out hL)
 go_region_held3 (fun W => W.cell? ⟨w.heap.size, 0, none⟩ = some (.bool s) ∧ W.cell? ⟨w.heap.size, 1, none⟩ = some (.slice A n c))
  (first
   | with_reducible exact ⟨p0d, p1d⟩
   | with_reducible exact ⟨cell_keep p0d b1, cell_keep p1d b1⟩
   | with_reducible exact ⟨cell_zset (cell_keep p0d b1) (by simp <;> omega) _ _, cell_zset (cell_keep p1d b1) (by simp <;> omega) _ _⟩)
  (first
   | (go_at_call 66; (with_reducible refine C.out.mono ?_); rintro e w1 ⟨r, rfl, o1, c1, b1⟩; obtain ⟨A1, n1, c2, rfl, k0, k1, f0, f1, fin⟩ := copy_fit (w0 := w) (s := s) c1 (HZ.out.step HS.out (below_of_drew b1)) (by omega) (HA.out.trans ((below_of_drew b1).mono HA.out.size)); have ZZ := hide (HZ.out.step HS.out (below_of_drew b1)); have CC := hide (c1.grownU (only_put2 w1 (w.heap.size + 1) (.bool s) (.slice A1 n1 c2)) (nu_of ZZ.out rfl)); have WW := hide ((o1.wr.mono (B' := w.heap.size) HA.out.size).grown (only_put2 w1 (w.heap.size + 1) (.bool s) (.slice A1 n1 c2)) (nu_of ZZ.out rfl)); clear o1 c1))
 all_goals
  obtain ⟨fh, rr, fe, fl, fb⟩ := fin
  have BB := hide fb
  have F := hide fh
  clear fh fe fl fb
  go_wp2_with fail
  exact bodyPost_ret (zret rfl _ _ _ #[.bool s, .slice A1 n1 c2] rfl rfl F.out) rfl ⟨A1, n1, c2, rfl, CC.out, WW.out, BB.out⟩
structure Zt where
 c : Int
 s : Bool
 xs : List Nat
 ys : List Nat
instance : Inhabited Zt := ⟨⟨0, false, [], []⟩⟩
def Zt.r (z : Zt) : Rat := mkRat (zi z.s (vl Q z.xs)) (dn (vl Q z.ys))
def Zf (W : World) (x : Rx) (z : Zt) (L : Nat) : Prop := x.s = z.s ∧ x.r = z.r ∧ Lw W (sv x.u) z.xs L ∧ Lw W (sv x.t) z.ys L
theorem Zf.step {W W' : World} {x : Rx} {z : Zt} {L : Nat} (h : Zf W x z L) (hb : Below W.heap.size W W') : Zf W' x z L := ⟨h.1, h.2.1, h.2.2.1.step hb, h.2.2.2.step hb⟩
theorem Zf.rl {W : World} {x : Rx} {z : Zt} {L : Nat} (h : Zf W x z L) : Rl W (rx x) z.s z.xs z.ys L := ⟨_, _, by rw [← h.1], h.2.2.1, h.2.2.2⟩
theorem Zf.ra {W : World} {x : Rx} {z : Zt} {L : Nat} (h : Zf W x z L) : Ra W (rx x) x.r L := by rw [h.2.1]; exact h.rl.ra
def Zg (W : World) (B : Nat) (x : Rx) (z : Zt) (L : Nat) : Prop := Zf W x z L ∧ Wr W B x.u ∧ Wr W B x.t
theorem Zg.step {W W' : World} {B L : Nat} {x : Rx} {z : Zt} (h : Zg W B x z L) (hb : Below W.heap.size W W') : Zg W' B x z L := ⟨h.1.step hb, h.2.1.step hb, h.2.2.step hb⟩
theorem Zg.mono {W : World} {B B' L : Nat} {x : Rx} {z : Zt} (h : Zg W B x z L) (hB : B' ≤ B) : Zg W B' x z L := ⟨h.1, h.2.1.mono hB, h.2.2.mono hB⟩
theorem Zg.grownT {W W' : World} {B L : Nat} {x : Rx} {z : Zt} {row : Option Nat} (h : Zg W B x z L) (hg : W.grownBy W' row) (hn : ∀ g, row = some g → Ot W g) : Zg W' B x z L := by
 have n1 : 0 < x.u.2.1 → ∀ B, x.u.1 = some B → some B.block ≠ row := fun h0 A hA e => h.2.1.ne (hn _ e.symm) h0 A hA rfl
 have n2 : 0 < x.t.2.1 → ∀ B, x.t.1 = some B → some B.block ≠ row := fun h0 A hA e => h.2.2.ne (hn _ e.symm) h0 A hA rfl
 exact ⟨⟨h.1.1, h.1.2.1, h.1.2.2.1.grownF hg n1, h.1.2.2.2.grownF hg n2⟩, h.2.1.grownF hg n1, h.2.2.grownF hg n2⟩
theorem Zg.grown {W W' : World} {B L g : Nat} {x : Rx} {z : Zt} (h : Zg W B x z L) (hg : W.grownBy W' (some g)) (hn : Nu W g) : Zg W' B x z L := ⟨⟨h.1.1, h.1.2.1, h.1.2.2.1.grownU hg hn, h.1.2.2.2.grownU hg hn⟩, h.2.1.grown hg hn, h.2.2.grown hg hn⟩
theorem zg_put {w0 w : World} {x : Rx} {z : Zt} {L g : Nat} (h : Zg w w0.heap.size x z L) (hz : Rb w g) (hg0 : w0.heap.size ≤ g) (hb : Below w0.heap.size w0 w) :
  (w.cell? ⟨g, 0, none⟩ = some (.bool false) ∧ w.cell? ⟨g, 1, none⟩ = some (.slice none 0 0) ∧ w.cell? ⟨g, 2, none⟩ = some (.slice none 0 0) ∧
   w.frozen? ⟨g, 0, none⟩ = false ∧ w.frozen? ⟨g, 1, none⟩ = false ∧ w.frozen? ⟨g, 2, none⟩ = false) ∧
   (((w.setCell ⟨g, 0, none⟩ (.bool x.s)).setCell ⟨g, 1, none⟩ (sv x.u)).setCell ⟨g, 2, none⟩ (sv x.t)).heap[g]? = some (.cells #[.bool x.s, sv x.u, sv x.t] 27 (0, 0)) ∧
    Zg (((w.setCell ⟨g, 0, none⟩ (.bool x.s)).setCell ⟨g, 1, none⟩ (sv x.u)).setCell ⟨g, 2, none⟩ (sv x.t)) w0.heap.size x z L ∧ Below w0.heap.size w0 (((w.setCell ⟨g, 0, none⟩ (.bool x.s)).setCell ⟨g, 1, none⟩ (sv x.u)).setCell ⟨g, 2, none⟩ (sv x.t)) :=
 ⟨⟨hz.c0, hz.c1, hz.c2, hz.fz 0, hz.fz 1, hz.fz 2⟩, hz.set _ _ _, h.grown (only_put3 w g _ _ _) hz.nu, below_put3 hb hg0 _ _ _⟩
theorem zf_of {W : World} {x : Rx} {L : Nat} (h : Ra W (rx x) x.r L) (c : Int) : ∃ z : Zt, z.c = c ∧ Zf W x z L := by
 obtain ⟨s, u, t, a, b, e, h1, h2, h3⟩ := h
 injection e with e
 have e3 := congrArg Array.toList e
 simp at e3
 obtain ⟨e4, e5, e6⟩ := e3
 obtain ⟨xs, e1, l1⟩ := h1.lw
 obtain ⟨ys, e2, l2⟩ := h2.lw
 subst e1 e2
 exact ⟨⟨c, s, xs, ys⟩, rfl, e4, h3, by rw [e5]; exact l1, by rw [e6]; exact l2⟩
set_option maxHeartbeats 4000000 in
theorem rcopy_w {w : World} {x : Rx} {z : Zt} {L : Nat} (hv : Zf w x z L) (hL : L ≤ 17592186044000) :
  Calls Tryz.prog 36 #[rx x] w fun e w' => ∃ y : Rx, e = .returned (rx y) ∧ Zg w' w.heap.size y z L ∧ Below w.heap.size w w' := by
 obtain ⟨s, ⟨A, n, c⟩, ⟨D, m, d⟩, r⟩ := x
 obtain ⟨zc, zs, xs, ys⟩ := z
 obtain ⟨e1, e2, h1, h2⟩ := hv
 dsimp only at e1
 subst e1
 have HR := hide e2
 clear e2
 obtain ⟨b2, hz, y1⟩ := f_world1 w s A D n c m d
 have N1 := hide (h1.step b2)
 have N2 := hide (h2.step b2)
 have P := hide y1
 have B := hide b2
 have Z := hide hz
 have hg0 : w.heap.size ≠ w.heap.size + 1 := by omega
 clear h1 h2 y1 b2 hz
 show Calls Tryz.prog 36 #[rv s (.slice A n c) (.slice D m d)] w _
 go_enter Tryz.func36, Tryz.ntmps36
 go_wp2_with fail
 generalize hW0 : ((w.alloc (rbox s (.slice A n c) (.slice D m d))).alloc rblk) = W0 at *
 go_region_held3 (fun W => (W.cell? ⟨w.heap.size, 0, none⟩ = some (.bool s) ∧ W.cell? ⟨w.heap.size, 1, none⟩ = some (.slice A n c) ∧ W.cell? ⟨w.heap.size, 2, none⟩ = some (.slice D m d)))
  (first | exact P.out | exact ⟨cell_rset P.out.1 hg0 _ _ _, cell_rset P.out.2.1 hg0 _ _ _, cell_rset P.out.2.2 hg0 _ _ _⟩)
  (first
   | (go_at_call 65; refine Calls.mono (zcopy_w (L := L) N1.out hL) ?_; rintro e wx ⟨A1, n1, c1, rfl, l1, w1, bx⟩; have L1 := hide l1; have W1 := hide (w1.mono (B' := w.heap.size) B.out.size); replace P := hide (P.out.step bx); replace N2 := hide (N2.out.step bx); replace Z := hide (Z.out.step bx); replace B := hide (Below.step B.out B.out.size bx); clear l1 w1 bx)
   | (go_at_call 66; refine Calls.mono (copy_l (L := L) N2.out hL) ?_; rintro e wx ⟨u2, rfl, o2, l2, bx⟩; obtain ⟨A2, n2, c2, rfl⟩ := l2.nw.slice; replace P := hide (P.out.step bx); obtain ⟨⟨k0, k1, k2, f0, f1, f2⟩, fin⟩ := zg_put (w0 := w) (x := ⟨s, (A1, n1, c1), (A2, n2, c2), r⟩) (z := ⟨zc, s, xs, ys⟩) (L := L) ⟨⟨rfl, HR.out, L1.out.step bx, l2⟩, W1.out.step bx, o2.wr.mono (B' := w.heap.size) B.out.size⟩ (Z.out.step bx) (by omega) (Below.step B.out B.out.size bx)))
 all_goals
  have F9 := hide fin
  clear fin
  go_wp2_with fail
  exact bodyPost_ret (rret rfl _ _ _ #[.bool s, .slice A1 n1 c1, .slice A2 n2 c2] rfl rfl F9.out.1) rfl ⟨⟨s, (A1, n1, c1), (A2, n2, c2), r⟩, rfl, F9.out.2⟩
theorem list_choose {α β : Type} {P : α → β → Prop} : ∀ (d : List α), (∀ x ∈ d, ∃ z, P x z) → ∃ zs : List β, d.length = zs.length ∧ ∀ (i : Nat) x z, d[i]? = some x → zs[i]? = some z → P x z
 | [], _ => ⟨[], rfl, fun i x z h => by simp at h⟩
 | y :: d, h => by
  obtain ⟨z0, h0⟩ := h y (by simp)
  obtain ⟨zs, hl, hz⟩ := list_choose d (fun x hx => h x (by simp [hx]))
  refine ⟨z0 :: zs, by simp [hl], fun i x z hx hz' => ?_⟩
  cases i with
  | zero => simp at hx hz'; subst hx hz'; exact h0
  | succ i => simp at hx hz'; exact hz i x z hx hz'
def Tl (W : World) (v : Value) (d : List Tx) (zs : List Zt) (L : Nat) : Prop := Lr et 4 W v d ∧ d.length = zs.length ∧ ∀ (i : Nat) x z, d[i]? = some x → zs[i]? = some z → x.c = z.c ∧ Zf W x.x z L
theorem Tl.step {W W' : World} {v : Value} {d : List Tx} {zs : List Zt} {L : Nat} (h : Tl W v d zs L) (hb : Below W.heap.size W W') : Tl W' v d zs L :=
 ⟨h.1.step hb, h.2.1, fun i x z hx hz => ⟨(h.2.2 i x z hx hz).1, (h.2.2 i x z hx hz).2.step hb⟩⟩
theorem zs_at {α β : Type} {d : List α} {zs : List β} (hl : d.length = zs.length) {i : Nat} {x : α} (hx : d[i]? = some x) : ∃ z, zs[i]? = some z := by
 have h := (List.getElem?_eq_some_iff.1 hx).1
 exact ⟨zs[i]'(by omega), List.getElem?_eq_getElem (by omega)⟩
theorem Tl.tv {W : World} {v : Value} {d : List Tx} {zs : List Zt} {L : Nat} (h : Tl W v d zs L) : Tv W v d L := ⟨h.1, fun x hx => by
 obtain ⟨i, hi, rfl⟩ := List.mem_iff_getElem.1 hx
 have hx' : d[i]? = some d[i] := List.getElem?_eq_getElem hi
 obtain ⟨z, hz⟩ := zs_at h.2.1 hx'
 exact (h.2.2 i _ z hx' hz).2.ra⟩
theorem Tl.tms {W W' : World} {v v' : Value} {d f : List Tx} {zs : List Zt} {L M : Nat} (h : Tl W v d zs L) (k : Tl W' v' f zs M) : tms d = tms f := by
 apply List.ext_getElem?
 intro i
 unfold Go.Proofs.YtofmhfbbedalbaaGreat.tms
 rw [List.getElem?_map, List.getElem?_map]
 by_cases hi : i < d.length
 ·obtain ⟨x, hx⟩ := len_of hi
  obtain ⟨z, hz⟩ := zs_at h.2.1 hx
  obtain ⟨y, hy⟩ := len_of (d := f) (k := i) (by have := h.2.1; have := k.2.1; omega)
  obtain ⟨a1, a2⟩ := h.2.2 i x z hx hz
  obtain ⟨b1, b2⟩ := k.2.2 i y z hy hz
  rw [hx, hy]
  simp only [Option.map_some, tm, a1, b1, a2.2.1, b2.2.1]
 ·rw [List.getElem?_eq_none (by omega), List.getElem?_eq_none (by have := h.2.1; have := k.2.1; omega)]
theorem tl_of {W : World} {v : Value} {d : List Tx} {L : Nat} (h : Tv W v d L) : ∃ zs, Tl W v d zs L := by
 obtain ⟨zs, hl, hz⟩ := list_choose (P := fun (x : Tx) (z : Zt) => x.c = z.c ∧ Zf W x.x z L) d (fun x hx => by
  obtain ⟨z, h1, h2⟩ := zf_of (h.2 x hx) x.c
  exact ⟨z, h1.symm, h2⟩)
 exact ⟨zs, h.1, hl, hz⟩
def Tw (W : World) (B : Nat) (v : Value) (d : List Tx) (zs : List Zt) (L : Nat) : Prop := Ow 59 et 4 W B v d ∧ d.length = zs.length ∧ ∀ (i : Nat) x z, d[i]? = some x → zs[i]? = some z → x.c = z.c ∧ Zg W B x.x z L
theorem Tw.step {W W' : World} {B : Nat} {v : Value} {d : List Tx} {zs : List Zt} {L : Nat} (h : Tw W B v d zs L) (hb : Below W.heap.size W W') : Tw W' B v d zs L :=
 ⟨h.1.step hb, h.2.1, fun i x z hx hz => ⟨(h.2.2 i x z hx hz).1, (h.2.2 i x z hx hz).2.step hb⟩⟩
theorem Tw.tl {W : World} {B : Nat} {v : Value} {d : List Tx} {zs : List Zt} {L : Nat} (h : Tw W B v d zs L) : Tl W v d zs L :=
 ⟨h.1.rl et_len, h.2.1, fun i x z hx hz => ⟨(h.2.2 i x z hx hz).1, (h.2.2 i x z hx hz).2.1⟩⟩
theorem Tw.push {W W' : World} {B L : Nat} {v v' : Value} {d : List Tx} {zs : List Zt} {x : Tx} {z : Zt} (T : Tw W B v d zs L) (ho : Ow 59 et 4 W' B v' (d ++ [x])) (hg : W.grownBy W' v.ownBlock) (hc : x.c = z.c) (hx : Zg W B x.x z L) : Tw W' B v' (d ++ [x]) (zs ++ [z]) L := by
 refine ⟨ho, by simp [T.2.1], fun i y u hy hu => ?_⟩
 by_cases hi : i < d.length
 ·rw [List.getElem?_append_left hi] at hy
  rw [List.getElem?_append_left (by have := T.2.1; omega)] at hu
  exact ⟨(T.2.2 i y u hy hu).1, (T.2.2 i y u hy hu).2.grownT hg (fun g e => T.1.ot g e)⟩
 ·rw [List.getElem?_append_right (by omega)] at hy
  rw [List.getElem?_append_right (by have := T.2.1; omega), ← T.2.1] at hu
  have hj : i - d.length = 0 := by
   have := (List.getElem?_eq_some_iff.1 hy).1
   simp at this
   omega
  rw [hj] at hy hu
  simp at hy hu
  subst hy hu
  exact ⟨hc, hx.grownT hg (fun g e => T.1.ot g e)⟩
def E4 (W : World) (A : Option Addr) (j : Nat) (x : Tx) : Prop := ∃ b off, A = some ⟨b, off, none⟩ ∧ W.cell? ⟨b, off + j, none⟩ = some (.int .i64 x.c) ∧ W.cell? ⟨b, off + j + 1, none⟩ = some (.bool x.x.s) ∧ W.cell? ⟨b, off + j + 2, none⟩ = some (sv x.x.u) ∧ W.cell? ⟨b, off + j + 3, none⟩ = some (sv x.x.t)
theorem E4.of {W : World} {A : Option Addr} {n c k : Nat} {d : List Tx} {x : Tx} (h : Lr et 4 W (.slice A n c) d) (hx : d[k]? = some x) : E4 W A (k * 4) x := by
 obtain ⟨b, off, rfl, hb, hc⟩ := h.get hx
 exact ⟨b, off, rfl, by have := hc 0 _ rfl; rwa [Nat.add_zero] at this, hc 1 _ rfl, hc 2 _ rfl, hc 3 _ rfl⟩
theorem E4.cells {W : World} {b off j : Nat} {x : Tx} (h : E4 W (some ⟨b, off, none⟩) j x) : W.cell? ⟨b, off + j, none⟩ = some (.int .i64 x.c) ∧ W.cell? ⟨b, off + j + 1, none⟩ = some (.bool x.x.s) ∧ W.cell? ⟨b, off + j + 2, none⟩ = some (sv x.x.u) ∧ W.cell? ⟨b, off + j + 3, none⟩ = some (sv x.x.t) := by
 obtain ⟨b', off', e, h⟩ := h
 injection e with e
 injection e with e1 e2
 subst e1 e2
 exact h
set_option maxHeartbeats 8000000 in
theorem copy_v {w : World} {v : Value} {d : List Tx} {zs : List Zt} {L : Nat} (hv : Tl w v d zs L) (hL : L ≤ 17592186044000) (hn : d.length ≤ 1000000) :
  Calls Tryz.prog 35 #[v] w fun e w' => ∃ v' d', e = .returned v' ∧ Tw w' w.heap.size v' d' zs L ∧ Below w.heap.size w w' := by
 obtain ⟨i0, hi, hz0, hz1, hz2⟩ := info_parts info_tm
 obtain ⟨A, c, e1, hc1, hc2, hc3⟩ := id hv.1
 obtain ⟨n, hlen⟩ : ∃ n, n = d.length := ⟨_, rfl⟩
 rw [← hlen] at e1 hc1
 subst e1
 have b0 := alloc_below w (.cells #[] 59)
 have HV := hide hv
 have T0 := hide (show Tw (w.alloc (.cells #[] 59)) w.heap.size (.slice (some ⟨w.heap.size, 0, none⟩) 0 0) [] (zs.take 0) L from ⟨Ow.lit (B := w.heap.size) et_len w 59 ([] : List Tx) #[] rfl (Nat.le_refl _) (by simp [maxLen]), by simp, fun i x z hx => by simp at hx⟩)
 have B0 := hide b0
 have DN := hide hn
 have HN := hide hlen
 have HZ := hide hv.2.1
 have HL := hide hL
 unfold maxLen at hc2
 clear hv b0 hn hc3 hlen
 go_enter Tryz.func35, Tryz.ntmps35
 go_wp2_with fail
 go_loopw [3, 4] (fun ov iv wr => ∃ (k : Nat) (os : List Tx), k ≤ n ∧ iv = .int .i64 (k : Int) ∧ Hid (os.length = k) ∧ Hid (Below w.heap.size w wr) ∧ Hid (Tw wr w.heap.size ov os (zs.take k) L)) (fun _ iv _ => n - (intOf iv).toNat)
 case atStart => exact ⟨0, [], Nat.zero_le _, rfl, hide rfl, B0, T0⟩
 case round =>
  obtain ⟨k, os, hk, rfl, KL, B, T⟩ := hrel
  by_cases hlt : k < n
  ·obtain ⟨x, hx⟩ := len_of (d := d) (k := k) (by rw [← HN.out]; exact hlt)
   obtain ⟨z, hz⟩ := zs_at HZ.out hx
   have HC := hide (show ∀ W, Below w.heap.size w W → E4 W A (k * 4) x from fun W h => E4.of (HV.out.1.step h) hx)
   have X5 := hide (((HV.out.2.2 k x z hx hz).2.step B.out).step (Below.refl wr.heap.size wr).drew)
   have XC := hide (HV.out.2.2 k x z hx hz).1
   have b8 := (Below.refl wr.heap.size wr).drew
   have T5 := hide (T.out.step b8)
   have B5 := hide (Below.step B.out B.out.size b8)
   have HLEN := hide (show os.length + 1 ≤ 1000000000000 by have := KL.out; have := DN.out; have := HN.out; omega)
   have EZ := hide (show zs.take (k + 1) = zs.take k ++ [z] from take_snoc hz)
   have l0 : (0 : Int) ≤ (k : Int) := by omega
   have l1 : (k : Int) < (n : Int) := by omega
   obtain ⟨b, off, rfl, -⟩ := HC.out w (Below.refl _ _)
   obtain ⟨c0, c1, c2, c3⟩ := (HC.out _ B5.out).cells
   clear hx hz b8 T
   go_wp2_with fail
   go_region_held3 (fun W => W.cell? ⟨b, off + k * 4, none⟩ = some (.int .i64 x.c) ∧ W.cell? ⟨b, off + k * 4 + 1, none⟩ = some (.bool x.x.s) ∧ W.cell? ⟨b, off + k * 4 + 2, none⟩ = some (sv x.x.u) ∧ W.cell? ⟨b, off + k * 4 + 3, none⟩ = some (sv x.x.t))
    (with_reducible first | exact (HC.out _ B5.out).cells | exact (HC.out _ B7.out).cells | exact (HC.out _ (B7.out.alloc B7.out.size _)).cells | exact (HC.out _ CF.out).cells)
    (first
     | (go_at_call 36; refine Calls.mono (rcopy_w X5.out HL.out) ?_; rintro e wx ⟨y, rfl, zy, bx⟩; have T7 := hide (T5.out.step bx); have B7 := hide (Below.step B5.out B5.out.size bx); have Z7 := hide (zy.mono (B' := w.heap.size) B5.out.size); clear zy bx)
     | (refine step_pushE rfl (.tmp 12) (.tmp 25) 22 rfl Tryz.underlying22 hi hz0 hz1 hz2 rfl (by omega) et_len et_one wx w.heap.size _ os ⟨x.c, y⟩ _ rfl T7.out.1 rfl rfl HLEN.out (by decide) B7.out.size ?_; intro v' w' ho hg; have TF := hide (T7.out.push ho hg.1 XC.out Z7.out); have CF := hide (below_own B7.out T7.out.1 hg.1 B7.out.size); clear ho hg))
   all_goals
    have TG := hide (show Tw w' w.heap.size v' (os ++ [⟨x.c, y⟩]) (zs.take (k + 1)) L by rw [EZ.out]; exact TF.out)
    have K2 := hide (show (os ++ [(⟨x.c, y⟩ : Tx)]).length = k + 1 by have := KL.out; simp; omega)
    clear T5 B5 X5 TF T7 B7 Z7 c0 c1 c2 c3
    go_wp2_with fail
    exact ⟨⟨k + 1, os ++ [⟨x.c, y⟩], by omega, by go_num, K2, CF, TG⟩, by simp [intOf]; omega⟩
  ·obtain rfl : k = n := by omega
   have TT := hide (show Tw wr w.heap.size _ os zs L by have h := T.out; rwa [List.take_of_length_le (by rw [← HZ.out, ← HN.out]; exact Nat.le_refl _)] at h)
   clear T
   go_wp2_with fail
   go_ret
   exact ⟨_, os, rfl, TT.out, B.out⟩

end Go.Proofs.YtofmhfbbedalbaaGreat
