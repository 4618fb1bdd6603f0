
/-
 Branchers: Choose.
-/
import Derived.Test.YtehdkdoaamlkdaaGreatBr4
import Derived.Test.YtehdkdoaamlkdaaGreatBundleM
import Derived.BigRegion


namespace Go.Proofs.YtehdkdoaamlkdaaGreat
open Go.RowKit Go.Proofs.YtehdkdoaamlkdaaGreat.Num Go.Maps
set_option linter.unusedVariables false
set_option linter.unusedSimpArgs false
set_option maxRecDepth 100000
def fr (r : Rat) : Rat := r - ((r.floor : Int) : Rat)
def brk (r : Rat) : Prop := ¬ ((r.floor : Int) : Rat) = r
open Classical in
noncomputable def chz (S : Rat → Rat) (fl : List Bool) (d : List Rx) : Nat → Option (Nat × Rat)
 | 0 => none
 | k + 1 =>
  if fl[k]? = some true ∧ ∃ x, d[k]? = some x ∧ brk x.r then
   (match chz S fl d k, d[k]? with
    | some (i, q), some x => if q < S (fr x.r) then some (k, S (fr x.r)) else some (i, q)
    | none, some x => some (k, S (fr x.r))
    | o, none => o)
  else chz S fl d k
section
open Classical
theorem chz_skip {S : Rat → Rat} {fl : List Bool} {d : List Rx} {k : Nat} (h : ¬ (fl[k]? = some true ∧ ∃ x, d[k]? = some x ∧ brk x.r)) : chz S fl d (k + 1) = chz S fl d k := by
 show (if _ then _ else _) = _
 rw [if_neg h]
theorem chz_first {S : Rat → Rat} {fl : List Bool} {d : List Rx} {k : Nat} {x : Rx} (h1 : fl[k]? = some true) (h2 : d[k]? = some x) (h3 : brk x.r) (h : chz S fl d k = none) : chz S fl d (k + 1) = some (k, S (fr x.r)) := by
 show (if _ then _ else _) = _
 rw [if_pos ⟨h1, x, h2, h3⟩, h, h2]
theorem chz_more {S : Rat → Rat} {fl : List Bool} {d : List Rx} {k i : Nat} {q : Rat} {x : Rx} (h1 : fl[k]? = some true) (h2 : d[k]? = some x) (h3 : brk x.r) (h : chz S fl d k = some (i, q)) (hq : q < S (fr x.r)) : chz S fl d (k + 1) = some (k, S (fr x.r)) := by
 show (if _ then _ else _) = _
 rw [if_pos ⟨h1, x, h2, h3⟩, h, h2]
 exact if_pos hq
theorem chz_less {S : Rat → Rat} {fl : List Bool} {d : List Rx} {k i : Nat} {q : Rat} {x : Rx} (h1 : fl[k]? = some true) (h2 : d[k]? = some x) (h3 : brk x.r) (h : chz S fl d k = some (i, q)) (hq : ¬ q < S (fr x.r)) : chz S fl d (k + 1) = some (i, q) := by
 show (if _ then _ else _) = _
 rw [if_pos ⟨h1, x, h2, h3⟩, h, h2]
 exact if_neg hq
end
def ChI (o : Option (Nat × Rat)) (bv fv : Value) (q : Rat) : Prop := (o = none ∧ bv = .int .i64 0 ∧ fv = .bool false) ∨ ∃ i, o = some (i, q) ∧ bv = .int .i64 (i : Int) ∧ fv = .bool true
theorem rret_x {w : World} {q : Rat} {L : Nat} {e : Ending} {w' : World} (h : RRet w q L e w') : ∃ z : Rx, e = .returned (rx z) ∧ z.r = q ∧ Rc w' (rx z) z.r L ∧ Below w.heap.size w w' := by
 obtain ⟨v, rfl, hc, hb⟩ := h
 obtain ⟨u, t, rfl, ⟨A, c, rfl, g1⟩, ⟨D, d, rfl, g2⟩⟩ := id hc
 exact ⟨⟨_, (A, _, c), (D, _, d), q⟩, rfl, rfl, hc, hb⟩
theorem cmpR_pos (a b : Rat) : decide (0 < cmpR a b) = decide (b < a) := by
 unfold cmpR
 by_cases h1 : a < b
 ·rw [if_pos h1]
  have : ¬ b < a := by grind
  simp [this]
 ·rw [if_neg h1]
  by_cases h2 : b < a
  ·rw [if_pos h2]; simp [h2]
  ·rw [if_neg h2]; simp [h2]
def ScK (w : World) (g : Nat) (S : Rat → Rat) (L N : Nat) : Prop :=
 ∀ (W : World) (i : Int) (x : Rx) (r : Rat), Below w.heap.size w W → Ra W (rx x) r L → Calls Tryz.prog 16 #[.pointer (some ⟨g, 0, none⟩), .int .i64 i, rx x] W (ScR W (S r) N)
def ChRet (w : World) (o : Option (Nat × Rat)) (e : Ending) (w' : World) : Prop :=
 ((o = none ∧ e = .returned (.tuple #[.int .i64 0, .bool false])) ∨ ∃ i q, o = some (i, q) ∧ e = .returned (.tuple #[.int .i64 (i : Int), .bool true])) ∧ Below w.heap.size w w'
theorem ch_put {w W : World} {gm gz N : Nat} {y : Rx} (z : Rx) (hz : Bq W gz z.s (sv z.u) (sv z.t)) (hy : Bq W gm y.s (sv y.u) (sv y.t)) (rz : Ra W (rx z) z.r N) (hb : Below gm w W) :
  Below gm w (((W.drew.setCell ⟨gm, 0, none⟩ (.bool z.s)).setCell ⟨gm, 1, none⟩ (sv z.u)).setCell ⟨gm, 2, none⟩ (sv z.t)) ∧
   Bq (((W.drew.setCell ⟨gm, 0, none⟩ (.bool z.s)).setCell ⟨gm, 1, none⟩ (sv z.u)).setCell ⟨gm, 2, none⟩ (sv z.t)) gm z.s (sv z.u) (sv z.t) ∧
   Ra (((W.drew.setCell ⟨gm, 0, none⟩ (.bool z.s)).setCell ⟨gm, 1, none⟩ (sv z.u)).setCell ⟨gm, 2, none⟩ (sv z.t)) (rx z) z.r N := by
 have hy' : Bq W.drew gm y.s (sv y.u) (sv y.t) := hy
 have rz' : Ra W.drew (rx z) z.r N := rz.step (Below.refl _ _).drew
 exact ⟨below_put3 hb.drew (Nat.le_refl _) _ _ _, hy'.put _ _ _, rz'.grownU (only_put3 _ _ _ _ _) hy'.nu⟩
set_option maxHeartbeats 16000000 in
theorem choose_c {w : World} {g N L : Nat} {S : Rat → Rat} {u v : Value} {fl : List Bool} {d : List Rx} (hu : Lr eb1 1 w u fl) (hv : Fv w v d L) (hs : ScK w g S (L + 1) N) (hN : N ≤ 1000000) (hN1 : 1 ≤ N) (hL1 : 1 ≤ L) (hL : L ≤ 1000000) :
  Calls Tryz.prog 8 #[.pointer (some ⟨g, 0, none⟩), u, v] w (ChRet w (chz S fl d (min fl.length d.length))) := by
 obtain ⟨UA, un, uc, rfl⟩ := rv_sl hu
 obtain ⟨VA, vn, vc, rfl⟩ := rv_sl hv.1
 have HU := hide hu
 have HV := hide hv
 have HS := hide hs
 have Z := hide (Rb.new w)
 have B := hide (bal w rblk)
 clear hu hv hs
 go_enter Tryz.func8, Tryz.ntmps8
 obtain ⟨eu, mu⟩ : un = fl.length ∧ uc ≤ maxLen ∧ un ≤ uc := by
  obtain ⟨A', c', e, h1, h2, h3⟩ := HU.out
  injection e with e1 e2 e3
  exact ⟨e2, by rw [e3]; exact h2, by rw [e2, e3]; exact h1⟩
 obtain ⟨ev, mv⟩ : vn = d.length ∧ vc ≤ maxLen ∧ vn ≤ vc := by
  obtain ⟨A', c', e, h1, h2, h3⟩ := HV.out.1
  injection e with e1 e2 e3
  exact ⟨e2, by rw [e3]; exact h2, by rw [e2, e3]; exact h1⟩
 obtain ⟨n, hn⟩ : ∃ n, n = min un vn := ⟨_, rfl⟩
 have hmn : min (un : Int) (vn : Int) = (n : Int) := by omega
 have hn1 : n ≤ un := by omega
 have hn2 : n ≤ vn := by omega
 have hn9 : n ≤ 9223372036854775807 := by unfold maxLen at mu; omega
 rw [← eu, ← ev, ← hn]
 have EU := hide eu
 have EV := hide ev
 clear hn eu ev mu mv
 go_wp2_with fail
 generalize hm : w.heap.size = gm at *
 have GM := hide hm
 clear hm
 go_loopw [8, 9, 18] (fun bv fv iv wr => ∃ (k : Nat) (y : Rx), k ≤ n ∧ iv = .int .i64 (k : Int) ∧ Hid (Below gm w wr) ∧ Hid (Bq wr gm y.s (sv y.u) (sv y.t)) ∧ Hid (Ra wr (rx y) y.r N) ∧ Hid (ChI (chz S fl d k) bv fv y.r)) (fun _ _ iv _ => n - (intOf iv).toNat)
 case atStart => exact ⟨0, ⟨false, (none, 0, 0), (none, 0, 0), 0⟩, Nat.zero_le _, rfl, B, hide Z.out, hide (ra_zero _ _), hide (.inl ⟨rfl, rfl, rfl⟩)⟩
 case round =>
  obtain ⟨k, y, hk, rfl, BL, BQ, RY, CI⟩ := hrel
  by_cases hlt : k < n
  ·have l1 : (0 : Int) ≤ (k : Int) := by omega
   have l2 : (k : Int) < (n : Int) := by omega
   have l3 : (k : Int) < (un : Int) := by omega
   have l4 : (k : Int) < (vn : Int) := by omega
   have BW := hide (show Below w.heap.size w wr by rw [GM.out]; exact BL.out)
   obtain ⟨b, hb⟩ := len_of (d := fl) (k := k) (by have := EU.out; omega)
   obtain ⟨x, hx⟩ := len_of (d := d) (k := k) (by have := EV.out; omega)
   have HB := hide hb
   have HX := hide hx
   obtain ⟨b1, off1, e1, hb1, hc1⟩ := (HU.out.step BW.out).get hb
   subst e1
   have u0 := hc1 0 _ rfl
   obtain ⟨b2, off2, e2, hb2, hc2⟩ := (HV.out.1.step BW.out).get hx
   subst e2
   have v0 := hc2 0 _ rfl
   have v1 := hc2 1 _ rfl
   have v2 := hc2 2 _ rfl
   rw [Nat.add_zero] at u0 v0
   rw [Nat.mul_one] at u0
   have RX := hide ((HV.out.step BW.out).2 x (List.mem_of_getElem? hx))
   clear hb hx hb1 hc1 hb2 hc2
   cases b with
   | false =>
    go_wp2_with fail
    exact ⟨⟨k + 1, y, by omega, by go_num, BL, BQ, RY, by rw [chz_skip (by rw [HB.out]; rintro ⟨h, -⟩; cases h)]; exact CI⟩, by simp [intOf]; omega⟩
   | true =>
    go_wp2_with fail
    refine ((iswhole_r RX.out (by omega) (by omega)).mono (R' := fun e w' => ∃ t : Bool, e = .returned (.bool t) ∧ (t = true ↔ ¬ brk x.r) ∧ Below wr.heap.size wr w') (fun e w' h => ⟨_, h.1, by unfold brk; simp, h.2⟩)).mono ?_
    rintro e w2 ⟨t, rfl, ht, bx⟩
    have HT := hide ht
    have BC := hide bx
    replace BL := hide (Below.step BL.out (by have := BW.out.size; have := GM.out; omega) bx)
    replace BW := hide (Below.step1 BW.out bx)
    replace BQ := hide (BQ.out.step bx)
    replace RY := hide (RY.out.step bx)
    replace RX := hide (RX.out.step bx)
    replace v0 := cell_keep v0 bx
    replace v1 := cell_keep v1 bx
    replace v2 := cell_keep v2 bx
    clear ht bx u0
    cases t with
    | true =>
     go_wp2_with fail
     exact ⟨⟨k + 1, y, by omega, by go_num, BL, BQ, RY, by rw [chz_skip (by rw [HB.out]; rintro ⟨-, z, h, h2⟩; rw [HX.out] at h; cases h; exact (HT.out.1 (by trivial)) h2)]; exact CI⟩, by simp [intOf]; omega⟩
    | false =>
     have BK := hide (show brk x.r by
      apply Classical.byContradiction
      intro h
      have := HT.out.2 h
      cases this)
     go_wp2_with fail
     refine (frac_r (r := x.r) RX.out (by omega) (by omega)).mono ?_
     rintro e w3 h3
     obtain ⟨f, rfl, ef, cf, bx⟩ := rret_x h3
     have EF := hide ef
     have RF := hide cf.ra
     replace BL := hide (Below.step BL.out (by have := BW.out.size; have := GM.out; omega) bx)
     replace BW := hide (Below.step1 BW.out bx)
     replace BQ := hide (BQ.out.step bx)
     replace RY := hide (RY.out.step bx)
     clear h3 ef cf bx v0 v1 v2 RX BC
     go_wp2_with fail
     refine (HS.out w3 (k : Int) f f.r BW.out RF.out).mono ?_
     rintro e w5 ⟨z, rfl, ez, cz, bx⟩
     have EZ := hide (show z.r = S (fr x.r) by rw [ez, EF.out]; rfl)
     have NE := hide (show w5.heap.size ≠ gm by have := BQ.out.lt; have := bx.size; omega)
     have b6 := bal w5 (rbox z.s (sv z.u) (sv z.t))
     have PZ := hide (Bq.new w5 z.s (sv z.u) (sv z.t))
     have RZ := hide ((cz.step b6).ra)
     replace BL := hide (Below.step BL.out (by have := BW.out.size; have := GM.out; omega) (Below.step1 bx b6))
     replace BW := hide (Below.step1 BW.out (Below.step1 bx b6))
     replace BQ := hide ((BQ.out.step bx).step b6)
     replace RY := hide ((RY.out.step bx).step b6)
     clear ez cz bx b6 RF EF
     rcases CI.out with ⟨e0, rfl, rfl⟩ | ⟨i0, e0, rfl, rfl⟩
     ·have CHF := chz_first HB.out HX.out BK.out e0
      rw [← EZ.out] at CHF
      clear e0 CI
      go_wp2_with fail
      generalize (w5.alloc (rbox z.s (sv z.u) (sv z.t))) = w6 at *
      generalize w5.heap.size = gz at *
      have KQ := PZ.out.all
      have KB := BQ.out.all
      have hne : gz ≠ gm := NE.out
      have z0 : w6.drew.cell? ⟨gz, 0, none⟩ = some (.bool z.s) := KQ.1
      have z1 : w6.drew.cell? ⟨gz, 1, none⟩ = some (sv z.u) := KQ.2.1
      have z2 : w6.drew.cell? ⟨gz, 2, none⟩ = some (sv z.t) := KQ.2.2.1
      have m0 : w6.drew.cell? ⟨gm, 0, none⟩ = some (.bool y.s) := KB.1
      have m09 : w6.cell? ⟨gm, 0, none⟩ = some (.bool y.s) := KB.1
      have m1 : w6.drew.cell? ⟨gm, 1, none⟩ = some (sv y.u) := KB.2.1
      have m19 : w6.cell? ⟨gm, 1, none⟩ = some (sv y.u) := KB.2.1
      have m2 : w6.drew.cell? ⟨gm, 2, none⟩ = some (sv y.t) := KB.2.2.1
      have m29 : w6.cell? ⟨gm, 2, none⟩ = some (sv y.t) := KB.2.2.1
      have m3 : w6.drew.frozen? ⟨gm, 0, none⟩ = false := KB.2.2.2.1
      have m39 : w6.frozen? ⟨gm, 0, none⟩ = false := KB.2.2.2.1
      have m4 : w6.drew.frozen? ⟨gm, 1, none⟩ = false := KB.2.2.2.2.1
      have m49 : w6.frozen? ⟨gm, 1, none⟩ = false := KB.2.2.2.2.1
      have m5 : w6.drew.frozen? ⟨gm, 2, none⟩ = false := KB.2.2.2.2.2
      have m59 : w6.frozen? ⟨gm, 2, none⟩ = false := KB.2.2.2.2.2
      have FN := hide (ch_put (N := N) z PZ.out BQ.out RZ.out BL.out)
      clear KQ KB
      go_region
      all_goals
       go_wp2_with fail
       exact ⟨⟨k + 1, z, by omega, by go_num, hide FN.out.1, hide FN.out.2.1, hide FN.out.2.2, hide (.inr ⟨k, CHF, rfl, rfl⟩)⟩, by simp [intOf]; omega⟩
     ·have E0 := hide e0
      obtain ⟨p0, p1, p2⟩ := bqc PZ.out
      obtain ⟨q0, q1, q2⟩ := bqc BQ.out
      clear e0 CI
      go_wp2_with fail
      generalize (w5.alloc (rbox z.s (sv z.u) (sv z.t))) = w5b at *
      generalize w5.heap.size = gz at *
      refine (cmp_r (r1 := z.r) (r2 := y.r) (L := N) RZ.out RY.out hN1 (by omega)).mono ?_
      rintro e w6 ⟨rfl, bx⟩
      have TP := cmpR_pos z.r y.r
      replace PZ := hide (PZ.out.step bx)
      replace RZ := hide (RZ.out.step bx)
      replace BL := hide (Below.step BL.out (by have := BW.out.size; have := GM.out; omega) bx)
      replace BQ := hide (BQ.out.step bx)
      replace RY := hide (RY.out.step bx)
      clear bx p0 p1 p2 q0 q1 q2
      by_cases hq : y.r < z.r
      ·have t1 : decide (0 < cmpR z.r y.r) = true := by rw [TP]; exact decide_eq_true hq
       have CHF := chz_more HB.out HX.out BK.out E0.out (by rw [← EZ.out]; exact hq)
       rw [← EZ.out] at CHF
       clear TP hq
       go_wp2_with fail
       have KQ := PZ.out.all
       have KB := BQ.out.all
       have hne : gz ≠ gm := NE.out
       have z0 : w6.drew.cell? ⟨gz, 0, none⟩ = some (.bool z.s) := KQ.1
       have z1 : w6.drew.cell? ⟨gz, 1, none⟩ = some (sv z.u) := KQ.2.1
       have z2 : w6.drew.cell? ⟨gz, 2, none⟩ = some (sv z.t) := KQ.2.2.1
       have m0 : w6.drew.cell? ⟨gm, 0, none⟩ = some (.bool y.s) := KB.1
       have m09 : w6.cell? ⟨gm, 0, none⟩ = some (.bool y.s) := KB.1
       have m1 : w6.drew.cell? ⟨gm, 1, none⟩ = some (sv y.u) := KB.2.1
       have m19 : w6.cell? ⟨gm, 1, none⟩ = some (sv y.u) := KB.2.1
       have m2 : w6.drew.cell? ⟨gm, 2, none⟩ = some (sv y.t) := KB.2.2.1
       have m29 : w6.cell? ⟨gm, 2, none⟩ = some (sv y.t) := KB.2.2.1
       have m3 : w6.drew.frozen? ⟨gm, 0, none⟩ = false := KB.2.2.2.1
       have m39 : w6.frozen? ⟨gm, 0, none⟩ = false := KB.2.2.2.1
       have m4 : w6.drew.frozen? ⟨gm, 1, none⟩ = false := KB.2.2.2.2.1
       have m49 : w6.frozen? ⟨gm, 1, none⟩ = false := KB.2.2.2.2.1
       have m5 : w6.drew.frozen? ⟨gm, 2, none⟩ = false := KB.2.2.2.2.2
       have m59 : w6.frozen? ⟨gm, 2, none⟩ = false := KB.2.2.2.2.2
       have FN := hide (ch_put (N := N) z PZ.out BQ.out RZ.out BL.out)
       clear KQ KB
       go_region
       all_goals
        go_wp2_with fail
        exact ⟨⟨k + 1, z, by omega, by go_num, hide FN.out.1, hide FN.out.2.1, hide FN.out.2.2, hide (.inr ⟨k, CHF, rfl, rfl⟩)⟩, by simp [intOf]; omega⟩
      ·have t1 : decide (0 < cmpR z.r y.r) = false := by rw [TP]; exact decide_eq_false hq
       have CHF := chz_less HB.out HX.out BK.out E0.out (by rw [← EZ.out]; exact hq)
       clear TP hq
       go_wp2_with fail
       exact ⟨⟨k + 1, y, by omega, by go_num, BL, BQ, RY, hide (.inr ⟨i0, CHF, rfl, rfl⟩)⟩, by simp [intOf]; omega⟩
  ·obtain rfl : k = n := by omega
   rcases CI.out with ⟨e0, rfl, rfl⟩ | ⟨i0, e0, rfl, rfl⟩
   ·have E0 := hide e0
    clear e0 CI
    go_wp2_with fail
    go_ret2
    exact ⟨.inl ⟨E0.out, rfl⟩, by rw [GM.out]; exact BL.out⟩
   ·have E0 := hide e0
    clear e0 CI
    go_wp2_with fail
    go_ret2
    exact ⟨.inr ⟨i0, y.r, E0.out, rfl⟩, by rw [GM.out]; exact BL.out⟩
end Go.Proofs.YtehdkdoaamlkdaaGreat
