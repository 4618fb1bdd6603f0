
/-
 The document's own Dot.
-/
import Derived.Test.YtofmhfbbedalbaaGreatFl

namespace Go.Proofs.YtofmhfbbedalbaaGreat
open Go.RowKit Go.Proofs.YtofmhfbbedalbaaGreat.Num
set_option linter.unusedVariables false
set_option linter.unusedSimpArgs false
set_option maxRecDepth 100000
theorem fl_mem {α : Type} {d : List α} {k : Nat} {x : α} (h : d[k]? = some x) : x ∈ d := List.mem_of_getElem? h
set_option maxHeartbeats 8000000 in
theorem vdot_f {w : World} {v u : Value} {d : List Tx} {f : List Rx} {L K : Nat} (hv : Tv w v d L) (hu : Fv w u f K) (hn : d.length ≤ 1000) (h1 : 1 ≤ L) (hL : L ≤ 100000) (h2 : 1 ≤ K) (hK : K ≤ 100000) (hf : f.length ≤ 1000) (hG : d.length * (5 * L + 1) + 6 + 5 * K + 1 ≤ 3000000) :
  Calls Tryz.prog 45 #[v, u] w (RxRet w (dt (tms d) (xf f)) (f.length * (d.length * (5 * L + 1) + 6 + 5 * K + 1) + 6)) := by
 obtain ⟨A, c, e1, hc1, hc2, hc3⟩ := id hu.1
 obtain ⟨n, hlen⟩ : ∃ n, n = f.length := ⟨_, rfl⟩
 rw [← hlen] at e1 hc1 hf ⊢
 subst e1
 obtain ⟨A1, n1, c1', rfl⟩ := rv_sl hv.1
 obtain ⟨G, hg⟩ : ∃ G, G = d.length * (5 * L + 1) + 6 := ⟨_, rfl⟩
 rw [← hg] at hG ⊢
 obtain ⟨N, hN⟩ : ∃ N, N = G + 5 * K + 1 := ⟨_, rfl⟩
 rw [← hN] at hG ⊢
 have GC := hide (show ∀ W (p : Nat), Below w.heap.size w W → Calls Tryz.prog 81 #[.slice A1 n1 c1', .int .i64 (p : Int)] W (RxRet W (gt (tms d) (p : Int)) G) from fun W p hb => by
  have h := vget_f (col := (p : Int)) (hv.step hb) hn h1 hL
  rwa [← hg] at h)
 have EQ := hide (show sm n (fun i => gt (tms d) (i : Int) * xf f (i : Int)) = dt (tms d) (xf f) from (dt_sum (tms d) n (xf f) (fun c hc => xf_out f c (by rw [← hlen]; exact hc))).symm)
 have HV := hide hu
 have HN := hide hlen
 have HB := hide ((Below.refl w.heap.size w).alloc (Nat.le_refl _) fqblk)
 have HZ := hide (Fb.new w)
 have NN := hide (show G + 5 * K + 1 = N from hN.symm)
 have NB := hide hG
 have KB := hide (And.intro h2 hK)
 unfold maxLen at hc2
 have G1 := hide (show 1 ≤ G by omega)
 clear hv hu hc3 hlen hg hN hG h1 hL h2 hK hn
 go_enter Tryz.func45, Tryz.ntmps45
 go_wp2_with fail
 refine (rqsmall_f (w.alloc fqblk) 0 (by omega) (by omega)).mono ?_
 rintro e w1 ⟨x, rfl, hx, rg, b1⟩
 have Z1 := hide (HZ.out.step b1)
 have B1 := hide (Below.step HB.out HB.out.size b1)
 have bx := (Below.refl w1.heap.size w1).alloc (Nat.le_refl _) (fqbox x.s (sv x.u) (sv x.t))
 have Z2 := hide (Z1.out.step bx)
 have B2 := hide (Below.step B1.out B1.out.size bx)
 have R2 := hide (rg.step bx)
 have Q2 := hide (Fq.new w1 x.s (sv x.u) (sv x.t))
 have HE := hide (show x.r = sm 0 (fun i => gt (tms d) (i : Int) * xf f (i : Int)) by rw [hx]; rfl)
 have lt1 : w.heap.size < w1.heap.size := by have := b1.size; simp at this; omega
 clear bx rg b1 hx Z1 B1 HB HZ
 go_wp2_with fail
 generalize (w1.alloc (fqbox x.s (sv x.u) (sv x.t))) = w2 at *
 generalize w1.heap.size = g5 at *
 go_loopw [6] (fun iv wr => ∃ (k : Nat) (x : Rx), k ≤ n ∧ iv = .int .i64 (k : Int) ∧ Hid (Below w.heap.size w wr) ∧ Hid (Fb wr w.heap.size) ∧ Fq wr g5 x.s (sv x.u) (sv x.t) ∧ Hid (x.r = sm k (fun i => gt (tms d) (i : Int) * xf f (i : Int))) ∧ Hid (Rf wr (rx x) x.r (k * N + 6))) (fun iv _ => n - (intOf iv).toNat)
 case atStart => exact ⟨0, x, Nat.zero_le _, rfl, B2, Z2, Q2.out, HE, by simpa using R2⟩
 case round =>
  obtain ⟨k, y, hk, rfl, B, Z, Qb, E, R⟩ := hrel
  by_cases hlt : k < n
  ·obtain ⟨t, ht⟩ := len_of (d := f) (k := k) (by rw [← HN.out]; exact hlt)
   have HK := hide (show k * N + 6 ≤ 4000000000 by have := Nat.mul_le_mul (show k ≤ 1000 by omega) NB.out; omega)
   have HM := hide (show k * N + 6 + (G + 5 * K) + 1 = (k + 1) * N + 6 by rw [Nat.add_mul k 1, ← NN.out]; omega)
   have HC := hide (show ∀ W, Below w.heap.size w W → E3 W A (k * 3) t from fun W h => E3.of (HV.out.1.step h) ht)
   have XF := hide (xf_in ht)
   have b8 := (Below.refl wr.heap.size wr).drew
   have B5 := hide (Below.step B.out B.out.size b8)
   have HR := hide ((HV.out.2 t (fl_mem ht)).step B5.out)
   have Z5 := hide (Z.out.step b8)
   have R5 := hide (R.out.step b8)
   have Q8 := hide (Qb.step b8)
   have l0 : (0 : Int) ≤ (k : Int) := by omega
   have l1 : (k : Int) < (n : Int) := by omega
   obtain ⟨b, off, rfl, -⟩ := HC.out w (Below.refl _ _)
   clear ht b8 Qb B Z R
   go_wp2_with fail
   obtain ⟨p0, p1, p2, f0, f1, f2⟩ := Q8.out.all
   obtain ⟨c0, c1, c2⟩ := (HC.out _ B5.out).cells
   go_region_with (first
    | (go_at_call 81; refine Calls.mono (GC.out _ k B5.out) ?_; rintro e wa ⟨ya, rfl, ha, ra, bx⟩; have Q7 := hide (Q8.out.step bx); obtain ⟨p0, p1, p2, f0, f1, f2⟩ := Q7.out.all; have R7 := hide (R5.out.step bx); have B7 := hide (Below.step B5.out B5.out.size bx); obtain ⟨c0, c1, c2⟩ := (HC.out _ B7.out).cells; have Z7 := hide (Z5.out.step bx); have X7 := hide (HR.out.step bx); have A7 := hide ra; have HA := hide ha; clear ha ra bx)
    | (go_at_call 39; refine Calls.mono (rof_f X7.out KB.out.1 (by have := KB.out.2; omega)) ?_; rintro e wb ⟨yb, rfl, ha, ra, bx⟩; have Q6 := hide (Q7.out.step bx); obtain ⟨p0, p1, p2, f0, f1, f2⟩ := Q6.out.all; have R6 := hide (R7.out.step bx); have B6 := hide (Below.step B7.out B7.out.size bx); obtain ⟨c0, c1, c2⟩ := (HC.out _ B6.out).cells; have Z6 := hide (Z7.out.step bx); have A6 := hide (A7.out.step bx); have D6 := hide ra; have HD := hide ha; clear ha ra bx)
    | (go_at_call 80; refine Calls.mono (rqmul_f A6.out D6.out G1.out (by have := NN.out; have := NB.out; omega) (by have := KB.out.2; omega)) ?_; rintro e wc ⟨yc, rfl, ha, ra, bx⟩; have Q4 := hide (Q6.out.step bx); obtain ⟨p0, p1, p2, f0, f1, f2⟩ := Q4.out.all; have R4 := hide (R6.out.step bx); have B4 := hide (Below.step B6.out B6.out.size bx); obtain ⟨c0, c1, c2⟩ := (HC.out _ B4.out).cells; have Z4 := hide (Z6.out.step bx); have P4 := hide ra; have HP := hide ha; clear ha ra bx)
    | (go_at_call 79; refine Calls.mono (rqadd_f R4.out P4.out (by omega) HK.out (by have := NN.out; have := NB.out; omega)) ?_; rintro e wx ⟨z, rfl, hz, rz, bx⟩; have Q5 := hide (Q4.out.step bx); obtain ⟨p0, p1, p2, f0, f1, f2⟩ := Q5.out.all; have B3 := hide (Below.step B4.out B4.out.size bx); have Z3 := hide (Z4.out.step bx); have RZ := hide (rz.more (M := (k + 1) * N + 6) (by have := HM.out; omega)); have HZ := hide hz; clear hz rz bx))
   all_goals
    have only := only_put3 wx g5 (.bool z.s) (sv z.u) (sv z.t)
    have bz2 := hide (below_put3 B3.out (Nat.le_of_lt lt1) (.bool z.s) (sv z.u) (sv z.t))
    have zz := hide (Z3.out.other (g := g5) (by omega) (.bool z.s) (sv z.u) (sv z.t))
    have qq := hide (Q5.out.put z.s (sv z.u) (sv z.t))
    have ee := hide (show z.r = sm (k + 1) (fun i => gt (tms d) (i : Int) * xf f (i : Int)) by rw [HZ.out, HP.out, HA.out, HD.out, E.out, sm, XF.out])
    have rr := hide (RZ.out.grownI only Q5.out.nui)
    clear only p0 p1 p2 f0 f1 f2 c0 c1 c2
    go_wp2_with fail
    exact ⟨⟨k + 1, z, by omega, by go_num, bz2, zz, qq.out, ee, rr⟩, by simp [intOf]; omega⟩
  ·obtain rfl : k = n := by omega
   obtain ⟨p0, p1, p2, f0, f1, f2⟩ := Qb.all
   have e9 := hide (show y.r = dt (tms d) (xf f) from E.out.trans EQ.out)
   obtain ⟨⟨k0, k1, k2, q0, q1, q2⟩, fin⟩ := rq_put R.out Z.out (Nat.le_refl _) B.out
   rw [e9.out] at fin
   have F := hide fin
   clear fin E R Z B Qb HE R2 B2 Z2 Q2
   go_wp2_with fail
   exact bodyPost_ret (rfret rfl _ _ _ #[.bool y.s, sv y.u, sv y.t] rfl rfl F.out.1) rfl F.out.2
end Go.Proofs.YtofmhfbbedalbaaGreat
