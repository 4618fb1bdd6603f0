/-
  Shared texts, one behind the other: Vref6.
-/
import Derived.Test.YtofmhfbbedalbaaGreatVref5

namespace Go.Proofs.YtofmhfbbedalbaaGreat
open Go.RowKit Go.Proofs.YtofmhfbbedalbaaGreat.Num
set_option linter.unusedVariables false
set_option linter.unusedSimpArgs false
set_option maxRecDepth 100000
set_option maxHeartbeats 8000000 in
theorem vmake_fl {w : World} {v : Value} {d : List Tx} {L : Nat} (hv : Tv w v d L) (hn : d.length ≤ 1000) (h1 : 1 ≤ L) (hL : L ≤ 100000) :
  Calls Tryz.prog 48 #[v] w fun e w' => ∃ v' d', e = .returned v' ∧ Tg w' w.heap.size v' d' (d.length * (5 * L + 1) + 6) ∧ Fm (tms d') ∧ (∀ c, 0 ≤ c → gsum (tms d') c = gsum (tms d) c) ∧ d'.length ≤ d.length ∧ Below w.heap.size w w' := by
 obtain ⟨i0, hi, hz0, hz1, hz2⟩ := info_parts info_tm
 obtain ⟨A, n, c, rfl⟩ := rv_sl hv.1
 have b0 := alloc_below w (.cells #[] 59)
 have HV := hide hv
 obtain ⟨M, hM⟩ : ∃ M, M = d.length * (5 * L + 1) + 6 := ⟨_, rfl⟩
 have MB := hide (show M ≤ 1000000000 by have := Nat.mul_le_mul hn (show 5 * L + 1 ≤ 500001 by omega); omega)
 have GC := hide (show ∀ W (p : Nat), Below w.heap.size w W → Calls Tryz.prog 81 #[.slice A n c, .int .i64 (p : Int)] W (RxRet W (gsum (tms d) (p : Int)) M) from fun W p hb => by
  have h := vget_f (col := (p : Int)) (hv.step hb) hn h1 hL
  rw [← hM, gt, if_pos (Int.natCast_nonneg p)] at h
  exact h)
 rw [← hM]
 have PC := hide (places_c (hv.1.step b0) (by omega))
 have T0 := hide (show Tg (w.alloc (.cells #[] 59)) w.heap.size (.slice (some ⟨w.heap.size, 0, none⟩) 0 0) [] M from ⟨Ow.lit (B := w.heap.size) et_len w 59 ([] : List Tx) #[] rfl (Nat.le_refl _) (by simp [maxLen]), fun x hx => by cases hx⟩)
 have B0 := hide b0
 have DN := hide hn
 clear hv b0 hM hn
 go_enter Tryz.func48, Tryz.ntmps48
 go_wp2_with fail
 refine PC.out.mono ?_
 rintro e w1 ⟨pv, ps, rfl, o1, i1, b1⟩
 obtain ⟨P, cp, hpe, hpc, hpm, _, _⟩ := o1.form
 have OP := hide (o1.mono (B' := w.heap.size) B0.out.size)
 obtain ⟨m, hlen⟩ : ∃ m, m = ps.length := ⟨_, rfl⟩
 rw [← hlen] at hpe hpc
 subst hpe
 have HN := hide hlen
 have PL := hide i1
 have PN := hide (show ps.length ≤ 1000 by have := i1.2.2; rw [tms_len] at this; have := DN.out; omega)
 have hm9 : m ≤ 1000 := by rw [HN.out]; exact PN.out
 replace T0 := hide (T0.out.step b1)
 replace B0 := hide (Below.step B0.out B0.out.size b1)
 clear o1 i1 b1 PC hlen
 go_wp2_with fail
 go_loopw [3, 5] (fun ov iv wr => ∃ (k : Nat) (os : List Tx), k ≤ m ∧ iv = .int .i64 (k : Int) ∧ Hid (tms os = pk (tms d) (ps.take k)) ∧ Hid (os.length ≤ k) ∧ Hid (Below w.heap.size w wr) ∧ Hid (Own .i64 3 wr w.heap.size (.slice P m cp) ps) ∧ Hid (Tg wr w.heap.size ov os M)) (fun _ iv _ => m - (intOf iv).toNat)
 case atStart => exact ⟨0, [], Nat.zero_le _, rfl, hide rfl, hide (Nat.le_refl _), B0, OP, T0⟩
 case round =>
  obtain ⟨k, os, hk, rfl, E, KL, B, O, T⟩ := hrel
  by_cases hlt : k < m
  ·obtain ⟨p, hp⟩ := len_of (d := ps) (k := k) (by rw [← HN.out]; exact hlt)
   obtain ⟨A', c', e9, _, _, hr9, _⟩ := O.out.form
   injection e9 with e1 e2 e3
   obtain ⟨b, off, e4, -, -⟩ := hr9.at_ (show k < ps.length by rw [← HN.out]; exact hlt)
   rw [← e1] at e4
   subst e4
   have c0 := own_cell O.out hp
   have l0 : (0 : Int) ≤ (k : Int) := by omega
   have l1 : (k : Int) < (m : Int) := by omega
   have HP := hide hp
   have SN := hide (pk_snoc (ts := tms d) hp)
   have GP := hide (GC.out wr p B.out)
   clear hr9 e1 e2 e3 hp
   go_wp2_with fail
   refine GP.out.mono ?_
   rintro e w2 ⟨x, rfl, hx, rg, b2⟩
   have bx := b2.trans ((alloc_below w2 (fqbox x.s (sv x.u) (sv x.t))).mono b2.size)
   have R3 := hide (rg.step (alloc_below w2 (fqbox x.s (sv x.u) (sv x.t))))
   have Q3 := hide (Fq.new w2 x.s (sv x.u) (sv x.t))
   have O3 := hide (O.out.step bx)
   have T3 := hide (T.out.step bx)
   have B3 := hide (Below.step B.out B.out.size bx)
   have X3 := hide hx
   have SC := hide (rqsign_any R3.out)
   obtain ⟨p0, p1, p2, _, _, _⟩ := Q3.out.all
   clear rg b2 bx hx c0 GP O T B
   go_wp2_with fail
   generalize (w2.alloc (fqbox x.s (sv x.u) (sv x.t))) = w3 at *
   generalize w2.heap.size = g6 at *
   refine SC.out.mono ?_
   rintro e w4 ⟨rfl, b4⟩
   have b5 := b4.trans ((Below.refl w4.heap.size w4).drew.mono b4.size)
   have O4 := hide (O3.out.step b4)
   have T4 := hide (T3.out.step b4)
   have B4 := hide (Below.step B3.out B3.out.size b4)
   have O5 := hide (O3.out.step b5)
   have T5 := hide (T3.out.step b5)
   have B5 := hide (Below.step B3.out B3.out.size b5)
   have R5 := hide (R3.out.step b5)
   have Q5 := hide (Q3.out.step b5)
   have C5 := hide (C4.of O5.out HP.out Q5.out)
   clear b4 b5 SC p0 p1 p2 Q3 O3 T3 B3 R3
   by_cases h0 : x.r = 0
   ·have t2 : (cmpR x.r 0 != 0) = false := by rw [h0, cmpR_same]; rfl
    have E2 := hide (show tms os = pk (tms d) (ps.take (k + 1)) by rw [SN.out, ← X3.out, if_pos h0, List.append_nil]; exact E.out)
    clear h0 O5 T5 B5 R5 Q5 C5
    go_wp2_with fail
    exact ⟨⟨k + 1, os, by omega, by go_num, E2, hide (Nat.le_succ_of_le KL.out), B4, O4, T4⟩, by simp [intOf]; omega⟩
   ·have t2 : (cmpR x.r 0 != 0) = true := cmpR_ne h0
    have HLEN := hide (show os.length + 1 ≤ 1000000000000 by have := KL.out; have := PN.out; have := HN.out; omega)
    clear O4 T4 B4
    go_wp2_with fail
    go_region_held3 (fun W => W.cell? ⟨b, off + k, none⟩ = some (.int .i64 (p : Int)) ∧ W.cell? ⟨g6, 0, none⟩ = some (.bool x.s) ∧ W.cell? ⟨g6, 1, none⟩ = some (sv x.u) ∧ W.cell? ⟨g6, 2, none⟩ = some (sv x.t))
     (with_reducible first | exact C5.out.cells | exact C7.out.cells | exact (C7.out.step (alloc_below _ _)).cells | exact C8.out.cells)
     (first
      | (go_at_call 42; refine Calls.mono (rfto_g R5.out (by have := MB.out; omega)) ?_; rintro e wx ⟨z, rfl, hz, rz, bx⟩; have O7 := hide (O5.out.step bx); have T7 := hide (T5.out.step bx); have B7 := hide (Below.step B5.out B5.out.size bx); have Q7 := hide (Q5.out.step bx); have Z7 := hide (rz.mono (B' := w.heap.size) B5.out.size); have H7 := hide hz; have C7 := hide (C5.out.step bx); clear rz hz bx)
      | (refine step_pushE rfl (.tmp 25) (.tmp 33) 22 rfl Tryz.underlying22 hi hz0 hz1 hz2 rfl (by omega) et_len et_one wx w.heap.size _ os ⟨(p : Int), z⟩ _ rfl T7.out.1 rfl rfl HLEN.out (by decide) B7.out.size ?_; intro v' w' ho hg; have TF := hide (T7.out.push ho hg.1 Z7.out (Nat.le_refl _)); have CF := hide (below_own B7.out T7.out.1 hg.1 B7.out.size); have O8 := hide (O7.out.grown hg.1 (own_ow_ne O7.out T7.out.1 int_term)); have C8 := hide (C4.of O8.out HP.out (fq_off T7.out.1 Q7.out hg.1)); clear ho hg))
    all_goals
     have E2 := hide (show tms (os ++ [⟨(p : Int), z⟩]) = pk (tms d) (ps.take (k + 1)) by rw [SN.out, ← X3.out, if_neg h0, tms_append, E.out, ← H7.out]; rfl)
     have K2 := hide (show (os ++ [(⟨(p : Int), z⟩ : Tx)]).length ≤ k + 1 by have := KL.out; simp; omega)
     clear h0 O5 T5 B5 R5 Q5 C5
     go_wp2_with fail
     exact ⟨⟨k + 1, os ++ [⟨(p : Int), z⟩], by omega, by go_num, E2, K2, CF, O8, TF⟩, by simp [intOf]; omega⟩
  ·obtain rfl : k = m := by omega
   have E2 := hide (show tms os = pk (tms d) ps by have h := E.out; rwa [List.take_of_length_le (by rw [← HN.out]; exact Nat.le_refl _)] at h)
   clear E
   go_wp2_with fail
   go_ret
   exact ⟨_, os, rfl, T.out, by rw [E2.out]; exact pk_fm PL.out.1, fun c hc => by rw [E2.out]; exact PL.out.sum c hc, by have h1 := KL.out; have h2 := PL.out.2.2; rw [tms_len] at h2; rw [HN.out] at h1; omega, B.out⟩
end Go.Proofs.YtofmhfbbedalbaaGreat
