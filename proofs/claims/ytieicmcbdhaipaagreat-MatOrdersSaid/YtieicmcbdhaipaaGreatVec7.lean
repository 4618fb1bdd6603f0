/-
  Vectors: Dot.
-/
import Derived.Test.YtieicmcbdhaipaaGreatVec6

namespace Go.Proofs.YtieicmcbdhaipaaGreat
open Go.RowKit Go.Proofs.YtieicmcbdhaipaaGreat.Num
set_option linter.unusedVariables false
set_option linter.unusedSimpArgs false
set_option maxRecDepth 100000

/-- What a list tells of a place: 0 ahead of it, and behind its end. -/
def xf (d : List Rx) (i : Int) : Rat := if 0 ≤ i then (match d[i.toNat]? with | some x => x.r | none => 0) else 0
theorem xf_out (d : List Rx) (i : Int) (h : i < 0 ∨ (d.length : Int) ≤ i) : xf d i = 0 := by
  unfold xf
  by_cases h0 : 0 ≤ i
  · rw [if_pos h0, List.getElem?_eq_none (by omega)]
  · rw [if_neg h0]
theorem xf_in {d : List Rx} {k : Nat} {x : Rx} (h : d[k]? = some x) : xf d (k : Int) = x.r := by
  unfold xf
  rw [if_pos (by omega), Int.toNat_natCast, h]
theorem ra_zero (W : World) (L : Nat) : Ra W (rv false (.slice none 0 0) (.slice none 0 0)) 0 L := by
  have h : Nw W (.slice none 0 0) 0 L := ⟨none, 0, 0, [], rfl, Rd.nil, Dg.nil, Nat.le_refl _, by simp [maxLen], rfl, Nat.zero_le _⟩
  exact ⟨false, _, _, 0, 0, rfl, h, h, by simp [zi]⟩

set_option maxHeartbeats 4000000 in
theorem at_r {w : World} {v : Value} {d : List Rx} {L : Nat} (i : Int) (hv : Fv w v d L) :
    Calls Tryz.prog 123 #[v, .int .i64 i] w fun e w' => ∃ x : Rx, e = .returned (rx x) ∧ x.r = xf d i ∧ Ra w' (rx x) x.r L ∧ Below w.heap.size w w' := by
  obtain ⟨A, c, e1, hc1, hc2, hc3⟩ := id hv.1
  obtain ⟨n, hlen⟩ : ∃ n, n = d.length := ⟨_, rfl⟩
  rw [← hlen] at e1 hc1
  subst e1
  have HV := hide hv
  have HN := hide hlen
  have b0 := (Below.refl w.heap.size w).alloc (Nat.le_refl _) rblk
  have B0 := hide b0
  have Z0 := hide (Rb.new w)
  have V0 := hide (hv.step b0)
  clear hv hc3 hlen b0
  by_cases h0 : i < 0
  · have t0 : decide (i < 0) = true := decide_eq_true h0
    have hx := hide (xf_out d i (.inl h0))
    have b1 := (Below.refl _ _).alloc (Nat.le_refl _) rblk (w := w.alloc rblk)
    have Z1 := hide (Z0.out.step b1)
    have Y1 := hide (Rb.new (w.alloc rblk))
    have B1 := hide (Below.step B0.out B0.out.size b1)
    go_enter Tryz.func123, Tryz.ntmps123
    clear b1
    have k0 := Z1.out.c0
    have k1 := Z1.out.c1
    have k2 := Z1.out.c2
    have f0 := Z1.out.fz 0
    have f1 := Z1.out.fz 1
    have f2 := Z1.out.fz 2
    go_wp2_with fail
    exact bodyPost_ret (rret rfl _ _ _ #[.bool false, .slice none 0 0, .slice none 0 0] rfl rfl Z1.out) rfl ⟨⟨false, (none, 0, 0), (none, 0, 0), 0⟩, rfl, hx.out.symm, ra_zero _ L, B1.out⟩
  · by_cases h2 : (n : Int) ≤ i
    · have t0 : decide (i < 0) = false := decide_eq_false h0
      have t1 : decide ((n : Int) ≤ i) = true := decide_eq_true h2
      have hx := hide (xf_out d i (.inr (by rw [← HN.out]; exact h2)))
      have b1 := (Below.refl _ _).alloc (Nat.le_refl _) rblk (w := w.alloc rblk)
      have Z1 := hide (Z0.out.step b1)
      have B1 := hide (Below.step B0.out B0.out.size b1)
      go_enter Tryz.func123, Tryz.ntmps123
      clear b1
      have k0 := Z1.out.c0
      have k1 := Z1.out.c1
      have k2 := Z1.out.c2
      have f0 := Z1.out.fz 0
      have f1 := Z1.out.fz 1
      have f2 := Z1.out.fz 2
      go_wp2_with fail
      exact bodyPost_ret (rret rfl _ _ _ #[.bool false, .slice none 0 0, .slice none 0 0] rfl rfl Z1.out) rfl ⟨⟨false, (none, 0, 0), (none, 0, 0), 0⟩, rfl, hx.out.symm, ra_zero _ L, B1.out⟩
    · obtain ⟨k, rfl⟩ : ∃ k : Nat, i = (k : Int) := ⟨i.toNat, by omega⟩
      have t0 : decide ((k : Int) < 0) = false := decide_eq_false h0
      have t1 : decide ((n : Int) ≤ (k : Int)) = false := decide_eq_false h2
      obtain ⟨x, hk⟩ := len_of (d := d) (k := k) (by rw [← HN.out]; omega)
      have hx := hide (xf_in hk)
      obtain ⟨b, off, rfl, hb, hc⟩ := V0.out.1.get hk
      have c0 := hc 0 _ rfl
      have c1 := hc 1 _ rfl
      have c2 := hc 2 _ rfl
      rw [Nat.add_zero] at c0
      have l0 : (0 : Int) ≤ (k : Int) := by omega
      have l1 : (k : Int) < (n : Int) := by omega
      have bx := (Below.refl w.heap.size w).alloc (Nat.le_refl _) (rbox x.s (sv x.u) (sv x.t))
      have RX := hide ((HV.out.2 x (List.mem_of_getElem? hk)).step bx)
      have BX := hide bx
      clear bx
      have k0 := Z0.out.c0
      have k1 := Z0.out.c1
      have k2 := Z0.out.c2
      have f0 := Z0.out.fz 0
      have f1 := Z0.out.fz 1
      have f2 := Z0.out.fz 2
      clear hc hb hk
      go_enter Tryz.func123, Tryz.ntmps123
      go_wp2_with fail
      exact bodyPost_ret (rret rfl _ _ _ #[.bool x.s, sv x.u, sv x.t] rfl rfl (Bq.new w x.s (sv x.u) (sv x.t))) rfl ⟨x, rfl, hx.out.symm, RX.out, BX.out⟩

theorem dt_take {d : List Tx} {k : Nat} {x : Tx} (h : d[k]? = some x) (f : Int → Rat) : dt (tms (d.take (k + 1))) f = dt (tms (d.take k)) f + x.x.r * f x.c := by
  rw [tms_snoc h, dt_snoc]; rfl
theorem rv_sl {α : Type} {W : World} {v : Value} {enc : α → List Value} {k : Nat} {d : List α} (h : Lr enc k W v d) : ∃ A n c, v = .slice A n c := by
  obtain ⟨A, c, rfl, _⟩ := h
  exact ⟨_, _, _, rfl⟩

set_option maxHeartbeats 16000000 in
theorem dot_g {w : World} {v u : Value} {d : List Tx} {f : List Rx} {L K : Nat} (hv : Tv w v d L) (hu : Fv w u f K) (hn : d.length ≤ 1000) (h1 : 1 ≤ L) (hL : L ≤ 10000000) (h2 : 1 ≤ K) (hK : K ≤ 10000000) :
    Calls Tryz.prog 53 #[v, u] w (RgRet w (dt (tms d) (xf f)) (d.length * (L + K + 1) + 1)) := by
  obtain ⟨A, c, e1, hc1, hc2, hc3⟩ := id hv.1
  obtain ⟨n, hlen⟩ : ∃ n, n = d.length := ⟨_, rfl⟩
  rw [← hlen] at e1 hc1 hn
  subst e1
  obtain ⟨A1, n1, c1, rfl⟩ := rv_sl hu.1
  have HV := hide hv
  have HU := hide hu
  have HN := hide hlen
  have HB := hide ((Below.refl w.heap.size w).alloc (Nat.le_refl _) rblk)
  have HZ := hide (Rb.new w)
  rw [← hlen]
  clear hv hu hc3 hlen
  go_enter Tryz.func53, Tryz.ntmps53
  go_wp2_with fail
  refine (whole_o (w.alloc rblk) 0 (by omega) (by omega)).mono ?_
  rintro e w1 ⟨x, rfl, hx, rg, b1⟩
  have Z1 := hide (HZ.out.step b1)
  have B1 := hide (Below.step HB.out HB.out.size b1)
  have bx := (Below.refl w1.heap.size w1).alloc (Nat.le_refl _) (rbox x.s (sv x.u) (sv x.t))
  have Z2 := hide (Z1.out.step bx)
  have B2 := hide (Below.step B1.out B1.out.size bx)
  have R2 := hide ((rg.mono (B' := w.heap.size) (by simp)).step bx)
  have Q2 := hide (Bq.new w1 x.s (sv x.u) (sv x.t))
  have X2 := hide hx
  have lt1 : w.heap.size < w1.heap.size := by have := b1.size; simp at this; omega
  clear bx rg b1 hx Z1 B1 HB HZ
  go_wp2_with fail
  generalize (w1.alloc (rbox x.s (sv x.u) (sv x.t))) = w2 at *
  generalize w1.heap.size = g5 at *
  have HE := hide (show x.r = dt (tms (d.take 0)) (xf f) by rw [X2.out]; simp [tms, dt])
  clear X2
  go_loopw [11] (fun iv wr => ∃ (k : Nat) (x : Rx), k ≤ n ∧ iv = .int .i64 (k : Int) ∧ Hid (Below w.heap.size w wr) ∧ Hid (Rb wr w.heap.size) ∧ Bq wr g5 x.s (sv x.u) (sv x.t) ∧ Hid (x.r = dt (tms (d.take k)) (xf f)) ∧ Hid (Rg wr w.heap.size x (k * (L + K + 1) + 1))) (fun iv _ => n - (intOf iv).toNat)
  case atStart => exact ⟨0, x, Nat.zero_le _, rfl, B2, Z2, Q2.out, HE, by simpa using R2⟩
  case round =>
    obtain ⟨k, y, hk, rfl, B, Z, Qb, E, R⟩ := hrel
    by_cases hlt : k < n
    · obtain ⟨t, ht⟩ := len_of (d := d) (k := k) (by rw [← HN.out]; exact hlt)
      have ET := hide (dt_take ht (xf f))
      have HKK := hide (show k * (L + K + 1) + 1 ≤ 1000000000000 by have := Nat.mul_le_mul (show k ≤ 1000 by omega) (show L + K + 1 ≤ 20000001 by omega); omega)
      have HM := hide (show k * (L + K + 1) + 1 + (L + K) + 1 = (k + 1) * (L + K + 1) + 1 by rw [Nat.add_mul k 1]; omega)
      have HR := hide ((HV.out.2 t (List.mem_of_getElem? ht)).step B.out)
      have HF := hide (HU.out.step B.out)
      obtain ⟨b, off, rfl, hb, hc⟩ := (HV.out.1.step B.out).get ht
      have c0 := hc 0 _ rfl
      have c1 := hc 1 _ rfl
      have c2 := hc 2 _ rfl
      have c3 := hc 3 _ rfl
      rw [Nat.add_zero] at c0
      have l0 : (0 : Int) ≤ (k : Int) := by omega
      have l1 : (k : Int) < (n : Int) := by omega
      have b8 := (Below.refl wr.heap.size wr).alloc (Nat.le_refl _) (.cells #[.int .i64 t.c, .bool t.x.s, sv t.x.u, sv t.x.t] 63)
      have b8 := b8.drew
      replace HR := hide (HR.out.step b8)
      replace HF := hide (HF.out.step b8)
      replace B := hide (Below.step B.out B.out.size b8)
      replace Z := hide (Z.out.step b8)
      replace R := hide (R.out.step b8)
      have Q8 := hide (Qb.step b8)
      have E8 := hide (heap_alloc_new wr (.cells #[.int .i64 t.c, .bool t.x.s, sv t.x.u, sv t.x.t] 63))
      clear hc hb ht b8 Qb
      go_wp2_with fail
      generalize (wr.alloc (Obj.cells #[Value.int IntKind.i64 t.c, Value.bool t.x.s, sv t.x.u, sv t.x.t] 63)) = w5 at *
      generalize wr.heap.size = gb at *
      have E9 := hide (show w5.drew.heap[gb]? = _ from E8.out)
      obtain ⟨p0, p1, p2, p3, q0, q1, q2⟩ := two_boxes E9.out Q8.out
      clear c0 c1 c2 c3 E8
      go_region_with (first
          | (go_at_call 123; refine Calls.mono (at_r t.c HF.out) ?_; rintro e wa ⟨ya, rfl, ha, ra, bx⟩; have E7 := hide (keep_obj E9.out bx); have Q7 := hide (Q8.out.step bx); obtain ⟨p0, p1, p2, p3, q0, q1, q2⟩ := two_boxes E7.out Q7.out; have R7 := hide (R.out.step bx); have B7 := hide (Below.step B.out B.out.size bx); have Z7 := hide (Z.out.step bx); have T7 := hide (HR.out.step bx); have A7 := hide ra; have HA := hide ha; clear ha ra bx)
          | (go_at_call 23; refine Calls.mono (mul_g T7.out A7.out h1 h2 (by omega) (by omega)) ?_; rintro e wb ⟨yb, rfl, hb, rb, bx⟩; have E6 := hide (keep_obj E7.out bx); have Q6 := hide (Q7.out.step bx); obtain ⟨p0, p1, p2, p3, q0, q1, q2⟩ := two_boxes E6.out Q6.out; have R6 := hide (R7.out.step bx); have B6 := hide (Below.step B7.out B7.out.size bx); have Z6 := hide (Z7.out.step bx); have A6 := hide rb.ra; have HB := hide hb; clear hb rb bx)
          | (go_at_call 21; refine Calls.mono (add_g R6.out.ra A6.out (by omega) (by omega) HKK.out (by omega)) ?_; rintro e wx ⟨z, rfl, hz, rz, bx⟩; have Q5 := hide (Q6.out.step bx); obtain ⟨p0, p1, p2, f0, f1, f2⟩ := Q5.out.all; have B5 := hide (Below.step B6.out B6.out.size bx); have Z5 := hide (Z6.out.step bx); have RZ := hide ((rz.mono (B' := w.heap.size) B6.out.size).more (M := (k + 1) * (L + K + 1) + 1) (by have := HM.out; omega)); have HZ := hide hz; clear hz rz bx))
      all_goals
        have only := only_put3 wx g5 (.bool z.s) (sv z.u) (sv z.t)
        have bz2 := hide (below_put3 B5.out (Nat.le_of_lt lt1) (.bool z.s) (sv z.u) (sv z.t))
        have zz := hide (Z5.out.other (g := g5) (by omega) (.bool z.s) (sv z.u) (sv z.t))
        have qq := hide (Q5.out.put z.s (sv z.u) (sv z.t))
        have ee := hide (show z.r = dt (tms (d.take (k + 1))) (xf f) by rw [HZ.out, HB.out, HA.out, ET.out, E.out])
        have rr := hide (RZ.out.grown only Q5.out.nu)
        clear only p0 p1 p2 p3 q0 q1 q2 f0 f1 f2
        go_wp2_with fail
        exact ⟨⟨k + 1, z, by omega, by go_num, bz2, zz, qq.out, ee, rr⟩, by simp [intOf]; omega⟩
    · obtain rfl : k = n := by omega
      obtain ⟨p0, p1, p2, f0, f1, f2⟩ := Qb.all
      have e9 := hide (show y.r = dt (tms d) (xf f) by rw [E.out, List.take_of_length_le (by rw [← HN.out]; exact Nat.le_refl _)])
      obtain ⟨⟨k0, k1, k2, q0, q1, q2⟩, fin⟩ := rg_put R.out Z.out (Nat.le_refl _) B.out
      rw [e9.out] at fin
      have F := hide fin
      clear fin E R Z B Qb HE R2 B2 Z2 Q2
      go_wp2_with fail
      exact bodyPost_ret (rret rfl _ _ _ #[.bool y.s, sv y.u, sv y.t] rfl rfl F.out.1) rfl F.out.2
end Go.Proofs.YtieicmcbdhaipaaGreat
