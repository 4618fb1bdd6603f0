/-
  Shared texts, one behind the other: Vref6, Mat1, Mat2.
-/
import Derived.Test.YtfnngcaalpknlaaGreatVref5
import Derived.Test.YtfnngcaalpknlaaGreatVscl
import Derived.Test.YtfnngcaalpknlaaGreatVgat

namespace Go.Proofs.YtfnngcaalpknlaaGreat
open Go.RowKit Go.Proofs.YtfnngcaalpknlaaGreat.Num
set_option linter.unusedVariables false
set_option linter.unusedSimpArgs false
set_option maxRecDepth 100000
set_option maxHeartbeats 8000000 in
theorem vmake_fl {w : World} {v : Value} {d : List Tx} {L : Nat} (hv : Tv w v d L) (hn : d.length ≤ 1000) (h1 : 1 ≤ L) (hL : L ≤ 100000) :
  Calls Tryz.prog 67 #[v] w fun e w' => ∃ v' d', e = .returned v' ∧ Tg w' w.heap.size v' d' (d.length * (5 * L + 1) + 6) ∧ Fm (tms d') ∧ (∀ c, 0 ≤ c → gsum (tms d') c = gsum (tms d) c) ∧ d'.length ≤ d.length ∧ Below w.heap.size w w' := by
 obtain ⟨i0, hi, hz0, hz1, hz2⟩ := info_parts info_tm
 obtain ⟨A, n, c, rfl⟩ := rv_sl hv.1
 have b0 := alloc_below w (.cells #[] 77)
 have HV := hide hv
 obtain ⟨M, hM⟩ : ∃ M, M = d.length * (5 * L + 1) + 6 := ⟨_, rfl⟩
 have MB := hide (show M ≤ 1000000000 by have := Nat.mul_le_mul hn (show 5 * L + 1 ≤ 500001 by omega); omega)
 have GC := hide (show ∀ W (p : Nat), Below w.heap.size w W → Calls Tryz.prog 123 #[.slice A n c, .int .i64 (p : Int)] W (RxRet W (gsum (tms d) (p : Int)) M) from fun W p hb => by
  have h := vget_f (col := (p : Int)) (hv.step hb) hn h1 hL
  rw [← hM, gt, if_pos (Int.natCast_nonneg p)] at h
  exact h)
 rw [← hM]
 have PC := hide (places_c (hv.1.step b0) (by omega))
 have T0 := hide (show Tg (w.alloc (.cells #[] 77)) w.heap.size (.slice (some ⟨w.heap.size, 0, none⟩) 0 0) [] M from ⟨Ow.lit (B := w.heap.size) et_len w 77 ([] : List Tx) #[] rfl (Nat.le_refl _) (by simp [maxLen]), fun x hx => by cases hx⟩)
 have B0 := hide b0
 have DN := hide hn
 clear hv b0 hM hn
 go_enter Tryz.func67, Tryz.ntmps67
 go_wp2_with fail
 refine PC.out.mono ?_
 rintro e w1 ⟨pv, ps, rfl, o1, i1, b1⟩
 obtain ⟨P, cp, hpe, hpc, hpm, _, _⟩ := o1.form
 have OP := hide (o1.mono (B' := w.heap.size) B0.out.size)
 obtain ⟨m, hlen⟩ : ∃ m, m = ps.length := ⟨_, rfl⟩
 rw [← hlen] at hpe hpc
 subst hpe
 have HN := hide hlen
 have PL := hide i1
 have PN := hide (show ps.length ≤ 1000 by have := i1.2.2; rw [tms_len] at this; have := DN.out; omega)
 have hm9 : m ≤ 1000 := by rw [HN.out]; exact PN.out
 replace T0 := hide (T0.out.step b1)
 replace B0 := hide (Below.step B0.out B0.out.size b1)
 clear o1 i1 b1 PC hlen
 go_wp2_with fail
 go_loopw [3, 5] (fun ov iv wr => ∃ (k : Nat) (os : List Tx), k ≤ m ∧ iv = .int .i64 (k : Int) ∧ Hid (tms os = pk (tms d) (ps.take k)) ∧ Hid (os.length ≤ k) ∧ Hid (Below w.heap.size w wr) ∧ Hid (Own .i64 3 wr w.heap.size (.slice P m cp) ps) ∧ Hid (Tg wr w.heap.size ov os M)) (fun _ iv _ => m - (intOf iv).toNat)
 case atStart => exact ⟨0, [], Nat.zero_le _, rfl, hide rfl, hide (Nat.le_refl _), B0, OP, T0⟩
 case round =>
  obtain ⟨k, os, hk, rfl, E, KL, B, O, T⟩ := hrel
  by_cases hlt : k < m
  ·obtain ⟨p, hp⟩ := len_of (d := ps) (k := k) (by rw [← HN.out]; exact hlt)
   obtain ⟨A', c', e9, _, _, hr9, _⟩ := O.out.form
   injection e9 with e1 e2 e3
   obtain ⟨b, off, e4, -, -⟩ := hr9.at_ (show k < ps.length by rw [← HN.out]; exact hlt)
   rw [← e1] at e4
   subst e4
   have c0 := own_cell O.out hp
   have l0 : (0 : Int) ≤ (k : Int) := by omega
   have l1 : (k : Int) < (m : Int) := by omega
   have HP := hide hp
   have SN := hide (pk_snoc (ts := tms d) hp)
   have GP := hide (GC.out wr p B.out)
   clear hr9 e1 e2 e3 hp
   go_wp2_with fail
   refine GP.out.mono ?_
   rintro e w2 ⟨x, rfl, hx, rg, b2⟩
   have bx := b2.trans ((alloc_below w2 (fqbox x.s (sv x.u) (sv x.t))).mono b2.size)
   have R3 := hide (rg.step (alloc_below w2 (fqbox x.s (sv x.u) (sv x.t))))
   have Q3 := hide (Fq.new w2 x.s (sv x.u) (sv x.t))
   have O3 := hide (O.out.step bx)
   have T3 := hide (T.out.step bx)
   have B3 := hide (Below.step B.out B.out.size bx)
   have X3 := hide hx
   have SC := hide (rqsign_any R3.out)
   obtain ⟨p0, p1, p2, _, _, _⟩ := Q3.out.all
   clear rg b2 bx hx c0 GP O T B
   go_wp2_with fail
   generalize (w2.alloc (fqbox x.s (sv x.u) (sv x.t))) = w3 at *
   generalize w2.heap.size = g6 at *
   refine SC.out.mono ?_
   rintro e w4 ⟨rfl, b4⟩
   have b5 := b4.trans ((Below.refl w4.heap.size w4).drew.mono b4.size)
   have O4 := hide (O3.out.step b4)
   have T4 := hide (T3.out.step b4)
   have B4 := hide (Below.step B3.out B3.out.size b4)
   have O5 := hide (O3.out.step b5)
   have T5 := hide (T3.out.step b5)
   have B5 := hide (Below.step B3.out B3.out.size b5)
   have R5 := hide (R3.out.step b5)
   have Q5 := hide (Q3.out.step b5)
   have C5 := hide (C4.of O5.out HP.out Q5.out)
   clear b4 b5 SC p0 p1 p2 Q3 O3 T3 B3 R3
   by_cases h0 : x.r = 0
   ·have t2 : (cmpR x.r 0 != 0) = false := by rw [h0, cmpR_same]; rfl
    have E2 := hide (show tms os = pk (tms d) (ps.take (k + 1)) by rw [SN.out, ← X3.out, if_pos h0, List.append_nil]; exact E.out)
    clear h0 O5 T5 B5 R5 Q5 C5
    go_wp2_with fail
    exact ⟨⟨k + 1, os, by omega, by go_num, E2, hide (Nat.le_succ_of_le KL.out), B4, O4, T4⟩, by simp [intOf]; omega⟩
   ·have t2 : (cmpR x.r 0 != 0) = true := cmpR_ne h0
    have HLEN := hide (show os.length + 1 ≤ 1000000000000 by have := KL.out; have := PN.out; have := HN.out; omega)
    clear O4 T4 B4
    go_wp2_with fail
    go_region_held3 (fun W => W.cell? ⟨b, off + k, none⟩ = some (.int .i64 (p : Int)) ∧ W.cell? ⟨g6, 0, none⟩ = some (.bool x.s) ∧ W.cell? ⟨g6, 1, none⟩ = some (sv x.u) ∧ W.cell? ⟨g6, 2, none⟩ = some (sv x.t))
     (with_reducible first | exact C5.out.cells | exact C7.out.cells | exact (C7.out.step (alloc_below _ _)).cells | exact C8.out.cells)
     (first
      | (go_at_call 69; refine Calls.mono (rfto_g R5.out (by have := MB.out; omega)) ?_; rintro e wx ⟨z, rfl, hz, rz, bx⟩; have O7 := hide (O5.out.step bx); have T7 := hide (T5.out.step bx); have B7 := hide (Below.step B5.out B5.out.size bx); have Q7 := hide (Q5.out.step bx); have Z7 := hide (rz.mono (B' := w.heap.size) B5.out.size); have H7 := hide hz; have C7 := hide (C5.out.step bx); clear rz hz bx)
      | (refine step_pushE rfl (.tmp 25) (.tmp 33) 28 rfl Tryz.underlying28 hi hz0 hz1 hz2 rfl (by omega) et_len et_one wx w.heap.size _ os ⟨(p : Int), z⟩ _ rfl T7.out.1 rfl rfl HLEN.out (by decide) B7.out.size ?_; intro v' w' ho hg; have TF := hide (T7.out.push ho hg.1 Z7.out (Nat.le_refl _)); have CF := hide (below_own B7.out T7.out.1 hg.1 B7.out.size); have O8 := hide (O7.out.grown hg.1 (own_ow_ne O7.out T7.out.1 int_term)); have C8 := hide (C4.of O8.out HP.out (fq_off T7.out.1 Q7.out hg.1)); clear ho hg))
    all_goals
     have E2 := hide (show tms (os ++ [⟨(p : Int), z⟩]) = pk (tms d) (ps.take (k + 1)) by rw [SN.out, ← X3.out, if_neg h0, tms_append, E.out, ← H7.out]; rfl)
     have K2 := hide (show (os ++ [(⟨(p : Int), z⟩ : Tx)]).length ≤ k + 1 by have := KL.out; simp; omega)
     clear h0 O5 T5 B5 R5 Q5 C5
     go_wp2_with fail
     exact ⟨⟨k + 1, os ++ [⟨(p : Int), z⟩], by omega, by go_num, E2, K2, CF, O8, TF⟩, by simp [intOf]; omega⟩
  ·obtain rfl : k = m := by omega
   have E2 := hide (show tms os = pk (tms d) ps by have h := E.out; rwa [List.take_of_length_le (by rw [← HN.out]; exact Nat.le_refl _)] at h)
   clear E
   go_wp2_with fail
   go_ret
   exact ⟨_, os, rfl, T.out, by rw [E2.out]; exact pk_fm PL.out.1, fun c hc => by rw [E2.out]; exact PL.out.sum c hc, by have h1 := KL.out; have h2 := PL.out.2.2; rw [tms_len] at h2; rw [HN.out] at h1; omega, B.out⟩
/-- A row: its slice, and its terms. -/
structure Vx where
  a : Sl
  d : List Tx
instance : Inhabited Vx := ⟨⟨(none, 0, 0), []⟩⟩
def em (x : Vx) : List Value := [sv x.a]
theorem em_len (x : Vx) : (em x).length = 1 := rfl
theorem em_one (x : Vx) : ∀ u ∈ em x, u.oneCell' = true := by
  intro u hu
  simp [em] at hu
  subst hu
  rfl
/-- The slice value reads as these rows, in any form. -/
def Mv (W : World) (v : Value) (m : List Vx) (L : Nat) : Prop := Lr em 1 W v m ∧ ∀ x ∈ m, Tv W (sv x.a) x.d L
theorem Mv.step {W W' : World} {v : Value} {m : List Vx} {L : Nat} (h : Mv W v m L) (hb : Below W.heap.size W W') : Mv W' v m L := ⟨h.1.step hb, fun x hx => (h.2 x hx).step hb⟩
theorem Mv.more {W : World} {v : Value} {m : List Vx} {L M : Nat} (h : Mv W v m L) (hL : L ≤ M) : Mv W v m M := ⟨h.1, fun x hx => (h.2 x hx).more hL⟩
/-- What a list of rows tells of a place: none ahead of it, and behind its end. -/
def rwA (m : List Vx) (i : Int) : List Tm := if 0 ≤ i then (match m[i.toNat]? with | some x => tms x.d | none => []) else []
theorem rwA_out (m : List Vx) (i : Int) (h : i < 0 ∨ (m.length : Int) ≤ i) : rwA m i = [] := by
  unfold rwA
  by_cases h0 : 0 ≤ i
  · rw [if_pos h0, List.getElem?_eq_none (by omega)]
  · rw [if_neg h0]
theorem rwA_in {m : List Vx} {k : Nat} {x : Vx} (h : m[k]? = some x) : rwA m (k : Int) = tms x.d := by
  unfold rwA
  rw [if_pos (by omega), Int.toNat_natCast, h]

set_option maxHeartbeats 4000000 in
theorem at_m {w : World} {v : Value} {m : List Vx} {L : Nat} (i : Int) (hv : Mv w v m L) :
    Calls Tryz.prog 109 #[v, .int .i64 i] w fun e w' => ∃ a d, e = .returned a ∧ tms d = rwA m i ∧ (∀ x ∈ m, d.length ≤ x.d.length ∨ True) ∧ Tv w' a d L ∧ (d = [] ∨ ∃ x ∈ m, x.d = d) ∧ Below w.heap.size w w' := by
  obtain ⟨A, c, e1, hc1, hc2, hc3⟩ := id hv.1
  obtain ⟨n, hlen⟩ : ∃ n, n = m.length := ⟨_, rfl⟩
  rw [← hlen] at e1 hc1
  subst e1
  have HV := hide hv
  have HN := hide hlen
  have NIL := hide (show ∀ W, Tv W (.slice none 0 0) [] L from fun W => ⟨Lr.nil et 4 _, fun x hx => by cases hx⟩)
  unfold maxLen at hc2
  clear hv hc3 hlen
  go_enter Tryz.func109, Tryz.ntmps109
  by_cases h0 : i < 0
  · have t0 : decide (i < 0) = true := decide_eq_true h0
    have hx := hide (rwA_out m i (.inl h0))
    clear h0
    go_wp2_with fail
    go_ret
    exact ⟨_, [], rfl, hx.out.symm, fun _ _ => .inr trivial, NIL.out _, .inl rfl, Below.refl _ _⟩
  · by_cases h2 : (n : Int) ≤ i
    · have t0 : decide (i < 0) = false := decide_eq_false h0
      have t1 : decide ((n : Int) ≤ i) = true := decide_eq_true h2
      have hx := hide (rwA_out m i (.inr (by rw [← HN.out]; exact h2)))
      clear h0 h2
      go_wp2_with fail
      go_ret
      exact ⟨_, [], rfl, hx.out.symm, fun _ _ => .inr trivial, NIL.out _, .inl rfl, Below.refl _ _⟩
    · obtain ⟨k, rfl⟩ : ∃ k : Nat, i = (k : Int) := ⟨i.toNat, by omega⟩
      have t0 : decide ((k : Int) < 0) = false := decide_eq_false h0
      have t1 : decide ((n : Int) ≤ (k : Int)) = false := decide_eq_false h2
      have t2 : decide (n ≤ k) = false := decide_eq_false (by omega)
      obtain ⟨x, hk⟩ := len_of (d := m) (k := k) (by rw [← HN.out]; omega)
      have hx := hide (rwA_in hk)
      obtain ⟨b, off, rfl, hb, hc⟩ := HV.out.1.get hk
      have c0 := hc 0 _ rfl
      rw [Nat.add_zero, Nat.mul_one] at c0
      have l0 : (0 : Int) ≤ (k : Int) := by omega
      have l1 : (k : Int) < (n : Int) := by omega
      have hm := hide (List.mem_of_getElem? hk)
      have RX := hide (HV.out.2 x hm.out)
      clear hc hb hk h0 h2
      go_wp2_with fail
      go_ret
      exact ⟨_, x.d, rfl, hx.out.symm, fun _ _ => .inr trivial, RX.out, .inr ⟨x, hm.out, rfl⟩, Below.refl _ _⟩

set_option maxHeartbeats 8000000 in
theorem times_m {w : World} {v u : Value} {m : List Vx} {f : List Rx} {L K N : Nat} (hv : Mv w v m L) (hu : Fv w u f K) (hm : m.length ≤ 100000) (hN : ∀ x ∈ m, x.d.length ≤ N) (hNN : N ≤ 1000) (h1 : 1 ≤ L) (hL : L ≤ 10000000) (h2 : 1 ≤ K) (hK : K ≤ 10000000) :
    Calls Tryz.prog 11 #[v, u] w fun e w' => ∃ v' l, e = .returned v' ∧ Fg w' w.heap.size v' l (N * (L + K + 1) + 1) ∧ l.length = m.length ∧ (∀ (j : Nat) x, l[j]? = some x → x.r = dt (rwA m (j : Int)) (xf f)) ∧ Below w.heap.size w w' := by
  obtain ⟨A, c, e1, hc1, hc2, hc3⟩ := id hv.1
  obtain ⟨n, hlen⟩ : ∃ n, n = m.length := ⟨_, rfl⟩
  rw [← hlen] at e1 hc1 hm ⊢
  subst e1
  obtain ⟨A2, n2, c2, rfl⟩ := rv_sl hu.1
  obtain ⟨M, hM⟩ : ∃ M, M = N * (L + K + 1) + 1 := ⟨_, rfl⟩
  rw [← hM]
  have HV := hide hv
  have HU := hide hu
  have HN := hide hlen
  have NN := hide hN
  have KL := hide (show ∀ q, q ≤ N → q * (L + K + 1) + 1 ≤ M from fun q hq => by rw [hM]; exact Nat.succ_le_succ (Nat.mul_le_mul_right _ hq))
  have PB := hide (And.intro h1 (And.intro hL (And.intro h2 hK)))
  unfold maxLen at hc2
  have hmk := make_rt n (by omega) w
  have O1 := hide (made3 w w.heap.size n (Nat.le_refl _) (by omega))
  have BA := hide (alloc_below w (.cells (madeCells #[.bool false, .slice none 0 0, .slice none 0 0] (n * 3)) 42))
  generalize madeCells #[.bool false, .slice none 0 0, .slice none 0 0] (n * 3) = Z at *
  have hpx : n ≤ 9223372036854775807 := by omega
  have hpz : (0 : Int) ≤ (n : Int) := by omega
  clear hv hu hc3 hlen hN hM h1 hL h2 hK
  go_enter Tryz.func11, Tryz.ntmps11
  go_wp2_with fail
  clear hmk
  generalize (w.alloc (.cells Z 42)) = w2 at *
  have S2 := hide (show Sc w2 w.heap.size (fun j => dt (rwA m (j : Int)) (xf f)) 0 n M (List.replicate n zrx) from ⟨by simp, fun j x h => by omega⟩)
  go_loopw [13] (fun iv wr => ∃ (k : Nat) (cur : List Rx), k ≤ n ∧ iv = .int .i64 (k : Int) ∧ Hid (Below w.heap.size w wr) ∧ Hid (Ow 42 er 3 wr w.heap.size (.slice (some ⟨w.heap.size, 0, none⟩) n n) cur) ∧ Hid (Sc wr w.heap.size (fun j => dt (rwA m (j : Int)) (xf f)) k n M cur)) (fun iv _ => n - (intOf iv).toNat)
  case atStart => exact ⟨0, _, Nat.zero_le _, rfl, BA, O1, S2⟩
  case round =>
    obtain ⟨k, cur, hk, rfl, B, O, S⟩ := hrel
    by_cases hlt : k < n
    · obtain ⟨x, hx⟩ := len_of (d := m) (k := k) (by rw [← HN.out]; exact hlt)
      have XR := hide (rwA_in hx)
      have hm9 := List.mem_of_getElem? hx
      have RX := hide ((HV.out.2 x hm9).step B.out)
      have NX := hide (NN.out x hm9)
      obtain ⟨b, off, rfl, hb, hc⟩ := (HV.out.1.step B.out).get hx
      have c0 := hc 0 _ rfl
      rw [Nat.add_zero, Nat.mul_one] at c0
      have l0 : (0 : Int) ≤ (k : Int) := by omega
      have l1 : (k : Int) < (n : Int) := by omega
      clear hc hb hx hm9
      go_wp2_with fail
      refine (dot_g RX.out (HU.out.step B.out) (by have := NX.out; omega) PB.out.1 PB.out.2.1 PB.out.2.2.1 PB.out.2.2.2).mono ?_
      rintro e w5 ⟨z, rfl, hz, rz, bx⟩
      have B5 := hide (Below.step B.out B.out.size bx)
      have O5 := hide (O.out.step bx)
      have S5 := hide (S.out.step bx)
      have Z5 := hide ((rz.mono (B' := w.heap.size) B.out.size).more (M := M) (KL.out _ NX.out))
      have HZ := hide (show z.r = dt (rwA m (k : Int)) (xf f) by rw [hz, XR.out])
      clear hz rz bx B O S RX c0
      obtain ⟨y, hy⟩ := len_of (d := cur) (k := k) (by rw [S5.out.1]; exact hlt)
      obtain ⟨⟨e0, e1, e2⟩, f0, f1, f2⟩ := O5.out.cellsR hy
      have hg := only_putR w5 w.heap.size (k * 3) (k * 3 + 1) (k * 3 + 2) (.bool z.s) (sv z.u) (sv z.t)
      have O6 := hide (O5.out.putR (i := k) (by rw [S5.out.1]; exact hlt) z)
      have S6 := hide (S5.out.put (lim' := k + 1) (val' := fun j => dt (rwA m (j : Int)) (xf f)) hlt HZ.out Z5.out (fun j h1 h2 => ⟨by omega, rfl⟩) hg (fun g e => O5.out.ot3 g (by rw [← e]; rfl)))
      have B6 := hide (show Below w.heap.size w _ from (B5.out.grown hg B5.out.size (fun g e => by injection e with e; subst e; exact (O5.out.lt rfl).1)))
      clear hy hg O5 S5 Z5 B5
      go_wp2_with fail
      exact ⟨⟨k + 1, _, by omega, by go_num, B6, O6, S6⟩, by simp [intOf]; omega⟩
    · obtain rfl : k = n := by omega
      have FIN := hide (show Fg wr w.heap.size (.slice (some ⟨w.heap.size, 0, none⟩) k k) cur M from ⟨O.out, fun x hx => by
        obtain ⟨j, hj, rfl⟩ := List.mem_iff_getElem.1 hx
        exact (S.out.2 j _ (by rw [← S.out.1]; exact hj) (List.getElem?_eq_getElem hj)).2⟩)
      have VAL := hide (show ∀ (j : Nat) x, cur[j]? = some x → x.r = dt (rwA m (j : Int)) (xf f) from fun j x hx => (S.out.2 j x (by rw [← S.out.1]; exact (List.getElem?_eq_some_iff.1 hx).1) hx).1)
      have LEN := hide S.out.1
      clear O S O1 S2
      go_wp2_with fail
      go_ret
      exact ⟨_, cur, rfl, FIN.out, LEN.out, VAL.out, B.out⟩
/-- append of a list, perhaps nil, to one of the call's own, in a region that draws. -/
theorem step_joinA {α : Type} {enc : α → List Value} {k : Nat} {P : Program} {ops : Array Oper} {o : Oper} {a : Act} {K : Act → World → Prop} {Q : Exit → Act → World → Prop} {E : Prop} (hgd : o.guard = none) (s y : Operand) (t : TypeId)
    (ho : o.op = .call { callee := .builtin .append, args := #[s, y], argTypes := #[t, t] })
    {e : TypeId} {i : TypeInfo} {z : Value} {by_ : Nat} (ht : P.underlying t = some (.slice e)) (hi : P.info? e = some i) (hz : i.zero = some z)
    (hsize : i.size = k) (hby : i.bytes = by_) (hzs : z.cells.size = k) (h0 : 0 < k) (hk : ∀ x, (enc x).length = k) (h1 : ∀ x, ∀ u ∈ enc x, u.oneCell' = true) (wr : World) (B : Nat) (v u : Value) (d d2 : List α)
    (hx : Lr enc k wr u d2) (hown : Ow e enc k wr B v d) (hs : a.eval s = v) (hy : a.eval y = u)
    (hlen : d.length + d2.length ≤ 1000000000000) (hb8 : by_ ≤ 128) (hB : B ≤ wr.heap.size)
    (h : ∀ v' w', Ow e enc k w' B v' (d ++ d2) → wr.grownBy w' v.ownBlock → K (a.put o.dst v') w') :
    if Region.wanted o (yielded ops a.tmps) = true then Oper.wp P o a wr K Q else E := by
  rw [if_pos (by simp [Region.wanted, hgd])]
  obtain ⟨A, c, rfl, hc1, hc2, hc3⟩ := id hx
  cases A with
  | none =>
    have h0 : d2 = [] := by
      rcases Nat.eq_zero_or_pos d2.length with h | h
      · exact List.length_eq_zero_iff.1 h
      · obtain ⟨b, off, e, _⟩ := hc3 h
        cases e
    subst h0
    have hv : ∃ A n c, v = .slice A n c ∧ n ≤ c := by
      rcases hown.form with ⟨rfl, _⟩ | ⟨g, cap, cur, rfl, _, _, _, h, _⟩
      · exact ⟨none, 0, 0, rfl, Nat.le_refl _⟩
      · exact ⟨_, _, _, rfl, h⟩
    obtain ⟨A, n, c0, rfl, hnc⟩ := hv
    have hr := run_join0 (P := P) (ty := o.type) ht hi wr A n c0 c hnc
    have h2 : Ow e enc k wr B (.slice A n c0) (d ++ []) := by rw [List.append_nil]; exact hown
    unfold Oper.wp execOp
    simp only [ho, resolve, invoke, builtin, Sem.run_bind, Sem.run_pure, Result.andThen_ok, List.map_toArray, List.map_cons, List.map_nil, hs, hy]
    erw [hr]
    exact h _ _ h2 (only_refl _ _)
  | some ad =>
    obtain ⟨v', w', hr, h2, h3⟩ := run_joinE (P := P) ht hi hz hsize hby hzs h0 hk h1 o.type wr B v d ad c d2 hx hown hlen hb8 hB
    unfold Oper.wp execOp
    simp only [ho, resolve, invoke, builtin, Sem.run_bind, Sem.run_pure, Result.andThen_ok, List.map_toArray, List.map_cons, List.map_nil, hs, hy, hr]
    exact h v' w' h2 h3.1
theorem Tg.join {W W' : World} {B K : Nat} {v v1 v' : Value} {os ds : List Tx} (T : Tg W B v os K) (D : Tg W B v1 ds K) (ho : Ow 77 et 4 W' B v' (os ++ ds)) (hg : W.grownBy W' v.ownBlock) : Tg W' B v' (os ++ ds) K := by
  refine ⟨ho, fun x hx => ?_⟩
  rcases List.mem_append.1 hx with h | h
  · exact (T.2 x h).grownT hg (fun g e => T.1.ot g e)
  · exact (D.2 x h).grownT hg (fun g e => T.1.ot g e)
/-- A variable that holds a term. -/
def Bt (W : World) (g : Nat) (x : Tx) : Prop := W.heap[g]? = some (.cells #[.int .i64 x.c, .bool x.x.s, sv x.x.u, sv x.x.t] 77 (0, 0))
theorem Bt.step {W W' : World} {g : Nat} {x : Tx} (h : Bt W g x) (hb : Below W.heap.size W W') : Bt W' g x := (hb.block g (Array.getElem?_eq_some_iff.1 h).1).trans h
theorem Bt.cells {W : World} {g : Nat} {x : Tx} (h : Bt W g x) : W.cell? ⟨g, 0, none⟩ = some (.int .i64 x.c) ∧ W.cell? ⟨g, 1, none⟩ = some (.bool x.x.s) ∧ W.cell? ⟨g, 2, none⟩ = some (sv x.x.u) ∧ W.cell? ⟨g, 3, none⟩ = some (sv x.x.t) := box_cells h
theorem Bt.lt {W : World} {g : Nat} {x : Tx} (h : Bt W g x) : g < W.heap.size := (Array.getElem?_eq_some_iff.1 h).1

set_option maxHeartbeats 8000000 in
theorem sum_m {w : World} {v u : Value} {o : List Tx} {m : List Vx} {L K N P : Nat} (hv : Tv w v o L) (hu : Mv w u m K) (hN : ∀ x ∈ m, x.d.length ≤ N) (hP : ∀ q, q ≤ N → q * (L + K + 1) + 1 ≤ P) (hPP : P ≤ 1000000) (ho : o.length * N ≤ 100000) (hNN : N ≤ 100000) (h1 : 1 ≤ L) (hL : L ≤ 500000) (h2 : 1 ≤ K) (hK : K ≤ 500000) (hoo : o.length ≤ 100000) :
    Calls Tryz.prog 55 #[v, u] w (VRet w (fun c => dt (tms o) (fun i => gsum (rwA m i) c)) (o.length * N) (o.length * N * (P + 1) + 1)) := by
  obtain ⟨i0, hi, hz0, hz1, hz2⟩ := info_parts info_tm
  obtain ⟨A, c, e1, hc1, hc2, hc3⟩ := id hv.1
  obtain ⟨n, hlen⟩ : ∃ n, n = o.length := ⟨_, rfl⟩
  rw [← hlen] at e1 hc1 ho hoo ⊢
  subst e1
  obtain ⟨A2, n2, c2, rfl⟩ := rv_sl hu.1
  have HV := hide hv
  have HU := hide hu
  have HN := hide hlen
  have NN := hide hN
  have PP := hide hP
  have PL := hide hPP
  have PB := hide (And.intro h1 (And.intro hL (And.intro h2 hK)))
  have ON := hide ho
  have NB := hide hNN
  have T0 := hide (show Tg w w.heap.size (.slice none 0 0) [] P from ⟨Ow.nil _ _ _ _ _, fun x hx => by cases hx⟩)
  unfold maxLen at hc2
  clear hv hu hc3 hlen hN hP hPP ho hNN h1 hL h2 hK
  go_enter Tryz.func55, Tryz.ntmps55
  go_wp2_with fail
  go_loopw [5, 10] (fun ov iv wr => ∃ (k : Nat) (os : List Tx), k ≤ n ∧ iv = .int .i64 (k : Int) ∧ Hid (∀ c, 0 ≤ c → gsum (tms os) c = dt (tms (o.take k)) (fun i => gsum (rwA m i) c)) ∧ Hid (os.length ≤ k * N) ∧ Hid (Below w.heap.size w wr) ∧ Hid (Tg wr w.heap.size ov os P)) (fun _ iv _ => n - (intOf iv).toNat)
  case atStart => exact ⟨0, [], Nat.zero_le _, rfl, hide (fun c _ => rfl), hide (Nat.zero_le _), hide (Below.refl _ _), T0⟩
  case round =>
    obtain ⟨k, os, hk, rfl, E, GL, B, T⟩ := hrel
    by_cases hlt : k < n
    · obtain ⟨x, hx⟩ := len_of (d := o) (k := k) (by rw [← HN.out]; exact hlt)
      have HX := hide hx
      have HC := hide (show E4 wr A (k * 4) x from E4.of (HV.out.1.step B.out) hx)
      obtain ⟨b, off, rfl, -⟩ := HC.out
      obtain ⟨c0, c1, c2', c3⟩ := HC.out.cells
      have b8 := (alloc_below wr (.cells #[.int .i64 x.c, .bool x.x.s, sv x.x.u, sv x.x.t] 77)).drew
      have B5 := hide (Below.step B.out B.out.size b8)
      have X5 := hide ((HV.out.2 x (List.mem_of_getElem? hx)).step B5.out)
      have U5 := hide (HU.out.step B5.out)
      have T5 := hide (T.out.step b8)
      have Q5 := hide (show Bt (wr.alloc (.cells #[.int .i64 x.c, .bool x.x.s, sv x.x.u, sv x.x.t] 77)).drew wr.heap.size x from heap_alloc_new wr (.cells #[.int .i64 x.c, .bool x.x.s, sv x.x.u, sv x.x.t] 77))
      have GB := hide (show os.length + N ≤ 1000000000 by
        have h1 := GL.out
        have h2 := ON.out
        have h3 : k * N ≤ n * N := Nat.mul_le_mul_right _ (by omega)
        have h4 := NB.out
        omega)
      have NE := hide (fun g (h : _ = some g) => (T.out.1.lt h).2)
      have l0 : (0 : Int) ≤ (k : Int) := by omega
      have l1 : (k : Int) < (n : Int) := by omega
      clear hx b8 T B
      go_wp2_with fail
      generalize (wr.alloc (.cells #[.int .i64 x.c, .bool x.x.s, sv x.x.u, sv x.x.t] 77)) = w3 at *
      generalize wr.heap.size = gb at *
      go_region_held3 (fun W => W.cell? ⟨gb, 0, none⟩ = some (.int .i64 x.c) ∧ W.cell? ⟨gb, 1, none⟩ = some (.bool x.x.s) ∧ W.cell? ⟨gb, 2, none⟩ = some (sv x.x.u) ∧ W.cell? ⟨gb, 3, none⟩ = some (sv x.x.t))
        (first | exact Q5.out.cells | exact QF.out.cells)
        (first
          | (go_at_call 109; refine Calls.mono (at_m x.c U5.out) ?_; rintro e wx ⟨av, d9, rfl, hd, -, t9, hd9, bx⟩; have D9 := hide hd; have R9 := hide t9; have N9 := hide (show d9.length ≤ N by rcases hd9 with h | ⟨y, hy, h⟩; (· rw [h]; exact Nat.zero_le _); (· rw [← h]; exact NN.out y hy)); replace X5 := hide (X5.out.step bx); replace T5 := hide (T5.out.step bx); replace Q5 := hide (Q5.out.step bx); replace B5 := hide (Below.step B5.out B5.out.size bx); clear hd t9 hd9 bx U5)
          | (go_at_call 74; refine Calls.mono (scale_t X5.out R9.out (by have := N9.out; have := NB.out; omega) PB.out.2.2.1 PB.out.2.2.2 PB.out.1 PB.out.2.1) ?_; rintro e wx ⟨v2, d2, rfl, t2, f2, g2, n2', bx⟩; have S2 := hide ((t2.mono (B' := w.heap.size) B5.out.size).more (M := P) (PP.out _ N9.out)); have G2 := hide (show ∀ c, 0 ≤ c → gsum (tms d2) c = x.x.r * gsum (rwA m x.c) c from fun c hc => by rw [g2 c hc, D9.out]); have N2 := hide (show d2.length ≤ N from Nat.le_trans n2' N9.out); replace T5 := hide (T5.out.step bx); replace Q5 := hide (Q5.out.step bx); replace B5 := hide (Below.step B5.out B5.out.size bx); clear t2 f2 g2 n2' bx X5)
          | (refine step_joinA rfl (.tmp 14) (.tmp 21) 28 rfl Tryz.underlying28 hi hz0 hz1 hz2 rfl (by omega) et_len et_one wx w.heap.size _ _ os d2 S2.out.tv.1 T5.out.1 rfl rfl (by have := GB.out; have := N2.out; omega) (by decide) B5.out.size ?_; intro v' w' ho hg; have TF := hide (T5.out.join S2.out ho hg); have QF := hide (show Bt w' gb x from (hg.block gb Q5.out.lt (fun e => by have := NE.out gb e.symm; omega)).trans Q5.out); have CF := hide (below_own B5.out T5.out.1 hg B5.out.size); clear ho hg))
      all_goals
        have E2 := hide (show ∀ c, 0 ≤ c → gsum (tms (os ++ d2)) c = dt (tms (o.take (k + 1))) (fun i => gsum (rwA m i) c) from fun c hc => by rw [dt_take HX.out, tms_append, gsum_append, E.out c hc, G2.out c hc])
        have K2 := hide (show (os ++ d2).length ≤ (k + 1) * N by rw [List.length_append, Nat.add_mul]; have := GL.out; have := N2.out; omega)
        clear T5 Q5 B5 c0 c1 c2' c3
        go_wp2_with fail
        exact ⟨⟨k + 1, os ++ d2, by omega, by go_num, E2, K2, CF, TF⟩, by simp [intOf]; omega⟩
    · obtain rfl : k = n := by omega
      have E2 := hide (show ∀ c, 0 ≤ c → gsum (tms os) c = dt (tms o) (fun i => gsum (rwA m i) c) from fun c hc => by have h := E.out c hc; rwa [List.take_of_length_le (by rw [← HN.out]; exact Nat.le_refl _)] at h)
      have MC := hide (make_v T.out.tv (by have := GL.out; have := ON.out; omega) (by have := PP.out 0 (Nat.zero_le _); omega) PL.out)
      obtain ⟨A9, n9, c9, rfl⟩ := rv_sl T.out.tv.1
      clear E T
      go_wp2_with fail
      refine MC.out.mono ?_
      rintro e w9 h
      have F := hide (h.later B.out E2.out GL.out (Nat.succ_le_succ (Nat.mul_le_mul_right _ GL.out)))
      obtain ⟨v', d', rfl, -⟩ := h
      clear MC
      go_wp2_with fail
      go_ret
      exact F.out
/-- A list times a matrix. -/
theorem sm_ext {n k : Nat} {f : Nat → Rat} (hk : n ≤ k) (h : ∀ i, n ≤ i → f i = 0) : sm k f = sm n f := by
  induction k with
  | zero => rw [show n = 0 by omega]
  | succ k ih =>
    by_cases e : n = k + 1
    · rw [e]
    · rw [sm, ih (by omega), h k (by omega), Rat.add_zero]
theorem dt_rows {o : List Tm} {m : List Vx} {y : Int → Rat} (h : ∀ c, 0 ≤ c → gsum o c = y c) (c : Int) : dt o (fun i => gsum (rwA m i) c) = sm m.length (fun i => y (i : Int) * gsum (rwA m (i : Int)) c) := by
  rw [dt_sum o m.length _ (fun i hi => by show gsum (rwA m i) c = 0; rw [rwA_out m i hi]; rfl)]
  refine sm_congr (fun i _ => ?_)
  show gt o (i : Int) * gsum (rwA m (i : Int)) c = _
  rw [gt, if_pos (by omega), h _ (by omega)]
set_option maxHeartbeats 4000000 in
theorem timest_m {w : World} {u v : Value} {f : List Rx} {m : List Vx} {L K N P : Nat} (hu : Fv w u f L) (hv : Mv w v m K) (hN : ∀ x ∈ m, x.d.length ≤ N) (hP : ∀ q, q ≤ N → q * (L + K + 1) + 1 ≤ P) (hPP : P ≤ 1000000) (hf : f.length * N ≤ 100000) (hNN : N ≤ 100000) (h1 : 1 ≤ L) (hL : L ≤ 500000) (h2 : 1 ≤ K) (hK : K ≤ 500000) (hff : f.length ≤ 100000) :
    Calls Tryz.prog 12 #[u, v] w (VRet w (fun c => sm m.length (fun i => xf f (i : Int) * gsum (rwA m (i : Int)) c)) (f.length * N) (f.length * N * (P + 1) + 1)) := by
  obtain ⟨A, n, c, rfl⟩ := rv_sl hu.1
  obtain ⟨A2, n2, c2, rfl⟩ := rv_sl hv.1
  have HV := hide hv
  have HC := hide (fun W (v1 : Value) (o : List Tx) (h : Tv W v1 o L) (hl : o.length ≤ f.length) (hb : Below w.heap.size w W) => sum_m h (hv.step hb) hN hP hPP (Nat.le_trans (Nat.mul_le_mul_right _ hl) hf) hNN h1 hL h2 hK (by omega))
  have GC := hide (gather_g hu hff h1 (by omega))
  clear hu hv hN hP hPP hf hNN h1 hL h2 hK hff
  go_enter Tryz.func12, Tryz.ntmps12
  go_wp2_with fail
  refine GC.out.mono ?_
  rintro e w1 ⟨v1, d1, rfl, t1, f1, g1, n1, b1⟩
  have SC := hide (HC.out w1 v1 d1 t1.tv n1 b1)
  have B1 := hide b1
  have G1 := hide g1
  have N1 := hide n1
  obtain ⟨A1, n1', c1, rfl⟩ := rv_sl t1.tv.1
  clear t1 f1 g1 n1 b1 GC HC
  go_wp2_with fail
  refine SC.out.mono ?_
  rintro e w2 h
  have F := hide (h.later (g := fun c => sm m.length (fun i => xf f (i : Int) * gsum (rwA m (i : Int)) c)) B1.out (fun c _ => dt_rows G1.out c) (Nat.mul_le_mul_right _ N1.out) (Nat.succ_le_succ (Nat.mul_le_mul_right _ (Nat.mul_le_mul_right _ N1.out))))
  obtain ⟨v', d', rfl, -⟩ := h
  clear SC
  go_wp2_with fail
  go_ret
  exact F.out
end Go.Proofs.YtfnngcaalpknlaaGreat
