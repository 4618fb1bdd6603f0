/-
  Shared texts, one behind the other: Vref6, Mat1, Mat2, Mat3, Mat4, Mat5.
-/
import Derived.Test.YtieicmcbdhaipaaGreatVref5
import Derived.Test.YtieicmcbdhaipaaGreatVscl
import Derived.Test.YtieicmcbdhaipaaGreatVgat
import Derived.Test.YtieicmcbdhaipaaGreatVdot

/-
  The document's Make and Axpy, with the lengths of what they answer.
-/

namespace Go.Proofs.YtieicmcbdhaipaaGreat
open Go.RowKit Go.Proofs.YtieicmcbdhaipaaGreat.Num
set_option linter.unusedVariables false
set_option linter.unusedSimpArgs false
set_option maxRecDepth 100000

set_option maxHeartbeats 8000000 in
theorem vmake_fl {w : World} {v : Value} {d : List Tx} {L : Nat} (hv : Tv w v d L) (hn : d.length ≤ 1000) (h1 : 1 ≤ L) (hL : L ≤ 100000) :
    Calls Tryz.prog 44 #[v] w fun e w' => ∃ v' d', e = .returned v' ∧ Tg w' w.heap.size v' d' (d.length * (5 * L + 1) + 6) ∧ Fm (tms d') ∧ (∀ c, 0 ≤ c → gsum (tms d') c = gsum (tms d) c) ∧ d'.length ≤ d.length ∧ Below w.heap.size w w' := by
  obtain ⟨i0, hi, hz0, hz1, hz2⟩ := info_parts info_tm
  obtain ⟨A, n, c, rfl⟩ := rv_sl hv.1
  have b0 := alloc_below w (.cells #[] 63)
  have HV := hide hv
  obtain ⟨M, hM⟩ : ∃ M, M = d.length * (5 * L + 1) + 6 := ⟨_, rfl⟩
  have MB := hide (show M ≤ 1000000000 by have := Nat.mul_le_mul hn (show 5 * L + 1 ≤ 500001 by omega); omega)
  have GC := hide (show ∀ W (p : Nat), Below w.heap.size w W → Calls Tryz.prog 45 #[.slice A n c, .int .i64 (p : Int)] W (RxRet W (gsum (tms d) (p : Int)) M) from fun W p hb => by
    have h := vget_f (col := (p : Int)) (hv.step hb) hn h1 hL
    rw [← hM, gt, if_pos (Int.natCast_nonneg p)] at h
    exact h)
  rw [← hM]
  have PC := hide (places_c (hv.1.step b0) (by omega))
  have T0 := hide (show Tg (w.alloc (.cells #[] 63)) w.heap.size (.slice (some ⟨w.heap.size, 0, none⟩) 0 0) [] M from ⟨Ow.lit (B := w.heap.size) et_len w 63 ([] : List Tx) #[] rfl (Nat.le_refl _) (by simp [maxLen]), fun x hx => by cases hx⟩)
  have B0 := hide b0
  have DN := hide hn
  clear hv b0 hM hn
  go_enter Tryz.func44, Tryz.ntmps44
  go_wp2_with fail
  refine PC.out.mono ?_
  rintro e w1 ⟨pv, ps, rfl, o1, i1, b1⟩
  obtain ⟨P, cp, hpe, hpc, hpm, _, _⟩ := o1.form
  have OP := hide (o1.mono (B' := w.heap.size) B0.out.size)
  obtain ⟨m, hlen⟩ : ∃ m, m = ps.length := ⟨_, rfl⟩
  rw [← hlen] at hpe hpc
  subst hpe
  have HN := hide hlen
  have PL := hide i1
  have PN := hide (show ps.length ≤ 1000 by have := i1.2.2; rw [tms_len] at this; have := DN.out; omega)
  have hm9 : m ≤ 1000 := by rw [HN.out]; exact PN.out
  replace T0 := hide (T0.out.step b1)
  replace B0 := hide (Below.step B0.out B0.out.size b1)
  clear o1 i1 b1 PC hlen
  go_wp2_with fail
  go_loopw [3, 5] (fun ov iv wr => ∃ (k : Nat) (os : List Tx), k ≤ m ∧ iv = .int .i64 (k : Int) ∧ Hid (tms os = pk (tms d) (ps.take k)) ∧ Hid (os.length ≤ k) ∧ Hid (Below w.heap.size w wr) ∧ Hid (Own .i64 3 wr w.heap.size (.slice P m cp) ps) ∧ Hid (Tg wr w.heap.size ov os M)) (fun _ iv _ => m - (intOf iv).toNat)
  case atStart => exact ⟨0, [], Nat.zero_le _, rfl, hide rfl, hide (Nat.le_refl _), B0, OP, T0⟩
  case round =>
    obtain ⟨k, os, hk, rfl, E, KL, B, O, T⟩ := hrel
    by_cases hlt : k < m
    · obtain ⟨p, hp⟩ := len_of (d := ps) (k := k) (by rw [← HN.out]; exact hlt)
      obtain ⟨A', c', e9, _, _, hr9, _⟩ := O.out.form
      injection e9 with e1 e2 e3
      obtain ⟨b, off, e4, -, -⟩ := hr9.at_ (show k < ps.length by rw [← HN.out]; exact hlt)
      rw [← e1] at e4
      subst e4
      have c0 := own_cell O.out hp
      have l0 : (0 : Int) ≤ (k : Int) := by omega
      have l1 : (k : Int) < (m : Int) := by omega
      have HP := hide hp
      have SN := hide (pk_snoc (ts := tms d) hp)
      have GP := hide (GC.out wr p B.out)
      clear hr9 e1 e2 e3 hp
      go_wp2_with fail
      refine GP.out.mono ?_
      rintro e w2 ⟨x, rfl, hx, rg, b2⟩
      have bx := b2.trans ((alloc_below w2 (fqbox x.s (sv x.u) (sv x.t))).mono b2.size)
      have R3 := hide (rg.step (alloc_below w2 (fqbox x.s (sv x.u) (sv x.t))))
      have Q3 := hide (Fq.new w2 x.s (sv x.u) (sv x.t))
      have O3 := hide (O.out.step bx)
      have T3 := hide (T.out.step bx)
      have B3 := hide (Below.step B.out B.out.size bx)
      have X3 := hide hx
      have SC := hide (rqsign_any R3.out)
      obtain ⟨p0, p1, p2, _, _, _⟩ := Q3.out.all
      clear rg b2 bx hx c0 GP O T B
      go_wp2_with fail
      generalize (w2.alloc (fqbox x.s (sv x.u) (sv x.t))) = w3 at *
      generalize w2.heap.size = g6 at *
      refine SC.out.mono ?_
      rintro e w4 ⟨rfl, b4⟩
      have b5 := b4.trans ((Below.refl w4.heap.size w4).drew.mono b4.size)
      have O4 := hide (O3.out.step b4)
      have T4 := hide (T3.out.step b4)
      have B4 := hide (Below.step B3.out B3.out.size b4)
      have O5 := hide (O3.out.step b5)
      have T5 := hide (T3.out.step b5)
      have B5 := hide (Below.step B3.out B3.out.size b5)
      have R5 := hide (R3.out.step b5)
      have Q5 := hide (Q3.out.step b5)
      have C5 := hide (C4.of O5.out HP.out Q5.out)
      clear b4 b5 SC p0 p1 p2 Q3 O3 T3 B3 R3
      by_cases h0 : x.r = 0
      · have t2 : (cmpR x.r 0 != 0) = false := by rw [h0, cmpR_same]; rfl
        have E2 := hide (show tms os = pk (tms d) (ps.take (k + 1)) by rw [SN.out, ← X3.out, if_pos h0, List.append_nil]; exact E.out)
        clear h0 O5 T5 B5 R5 Q5 C5
        go_wp2_with fail
        exact ⟨⟨k + 1, os, by omega, by go_num, E2, hide (Nat.le_succ_of_le KL.out), B4, O4, T4⟩, by simp [intOf]; omega⟩
      · have t2 : (cmpR x.r 0 != 0) = true := cmpR_ne h0
        have HLEN := hide (show os.length + 1 ≤ 1000000000000 by have := KL.out; have := PN.out; have := HN.out; omega)
        clear O4 T4 B4
        go_wp2_with fail
        go_region_held3 (fun W => W.cell? ⟨b, off + k, none⟩ = some (.int .i64 (p : Int)) ∧ W.cell? ⟨g6, 0, none⟩ = some (.bool x.s) ∧ W.cell? ⟨g6, 1, none⟩ = some (sv x.u) ∧ W.cell? ⟨g6, 2, none⟩ = some (sv x.t))
          (with_reducible first | exact C5.out.cells | exact C7.out.cells | exact (C7.out.step (alloc_below _ _)).cells | exact C8.out.cells)
          (first
            | (go_at_call 26; refine Calls.mono (rfto_g R5.out (by have := MB.out; omega)) ?_; rintro e wx ⟨z, rfl, hz, rz, bx⟩; have O7 := hide (O5.out.step bx); have T7 := hide (T5.out.step bx); have B7 := hide (Below.step B5.out B5.out.size bx); have Q7 := hide (Q5.out.step bx); have Z7 := hide (rz.mono (B' := w.heap.size) B5.out.size); have H7 := hide hz; have C7 := hide (C5.out.step bx); clear rz hz bx)
            | (refine step_pushE rfl (.tmp 25) (.tmp 33) 47 rfl Tryz.underlying47 hi hz0 hz1 hz2 rfl (by omega) et_len et_one wx w.heap.size _ os ⟨(p : Int), z⟩ _ rfl T7.out.1 rfl rfl HLEN.out (by decide) B7.out.size ?_; intro v' w' ho hg; have TF := hide (T7.out.push ho hg.1 Z7.out (Nat.le_refl _)); have CF := hide (below_own B7.out T7.out.1 hg.1 B7.out.size); have O8 := hide (O7.out.grown hg.1 (own_ow_ne O7.out T7.out.1 int_term)); have C8 := hide (C4.of O8.out HP.out (fq_off T7.out.1 Q7.out hg.1)); clear ho hg))
        all_goals
          have E2 := hide (show tms (os ++ [⟨(p : Int), z⟩]) = pk (tms d) (ps.take (k + 1)) by rw [SN.out, ← X3.out, if_neg h0, tms_append, E.out, ← H7.out]; rfl)
          have K2 := hide (show (os ++ [(⟨(p : Int), z⟩ : Tx)]).length ≤ k + 1 by have := KL.out; simp; omega)
          clear h0 O5 T5 B5 R5 Q5 C5
          go_wp2_with fail
          exact ⟨⟨k + 1, os ++ [⟨(p : Int), z⟩], by omega, by go_num, E2, K2, CF, O8, TF⟩, by simp [intOf]; omega⟩
    · obtain rfl : k = m := by omega
      have E2 := hide (show tms os = pk (tms d) ps by have h := E.out; rwa [List.take_of_length_le (by rw [← HN.out]; exact Nat.le_refl _)] at h)
      clear E
      go_wp2_with fail
      go_ret
      exact ⟨_, os, rfl, T.out, by rw [E2.out]; exact pk_fm PL.out.1, fun c hc => by rw [E2.out]; exact PL.out.sum c hc, by have h1 := KL.out; have h2 := PL.out.2.2; rw [tms_len] at h2; rw [HN.out] at h1; omega, B.out⟩
set_option maxHeartbeats 8000000 in
theorem vaxpy_fl {w : World} {a0 : Rx} {ra : Rat} {K : Nat} {v u : Value} {d f : List Tx} {L : Nat} (ha : Ra w (rx a0) ra K) (hv : Tv w v d L) (hu : Tv w u f L) (hn : d.length + f.length ≤ 1000) (h1 : 1 ≤ L) (hL : L ≤ 10000) (h2 : 1 ≤ K) (hK : K ≤ 1000) :
    Calls Tryz.prog 50 #[rx a0, v, u] w fun e w' => ∃ v' d', e = .returned v' ∧ Tg w' w.heap.size v' d' ((d.length + f.length) * (5 * (5 * (K + L)) + 1) + 6) ∧ Fm (tms d') ∧ (∀ c, 0 ≤ c → gsum (tms d') c = ra * gsum (tms d) c + gsum (tms f) c) ∧ d'.length ≤ d.length + f.length ∧ Below w.heap.size w w' := by
  obtain ⟨i0, hi, hz0, hz1, hz2⟩ := info_parts info_tm
  obtain ⟨A, c, e1, hc1, hc2, hc3⟩ := id hv.1
  obtain ⟨n, hlen⟩ : ∃ n, n = d.length := ⟨_, rfl⟩
  rw [← hlen] at e1 hc1
  subst e1
  obtain ⟨M, hM⟩ : ∃ M, M = 5 * (K + L) := ⟨_, rfl⟩
  have hM1 : L ≤ M ∧ 1 ≤ M ∧ M ≤ 60000 ∧ 5 * K + 5 * L ≤ M := by omega
  have b0 := alloc_below w (rbox a0.s (sv a0.u) (sv a0.t))
  have b1 : Below w.heap.size w ((w.alloc (rbox a0.s (sv a0.u) (sv a0.t))).alloc (.cells #[] 63)) := b0.alloc b0.size _
  have Q1 := hide ((Bq.new w a0.s (sv a0.u) (sv a0.t)).step (alloc_below _ (.cells #[] 63)))
  have O1 := hide (show Ow 63 et 4 ((w.alloc (rbox a0.s (sv a0.u) (sv a0.t))).alloc (.cells #[] 63)) w.heap.size (.slice (some ⟨w.heap.size + 1, 0, none⟩) 0 0) [] from by
    have h := Ow.lit (B := w.heap.size) et_len (w.alloc (rbox a0.s (sv a0.u) (sv a0.t))) 63 ([] : List Tx) #[] rfl b0.size (by simp [maxLen])
    rw [show (w.alloc (rbox a0.s (sv a0.u) (sv a0.t))).heap.size = w.heap.size + 1 by simp] at h
    exact h)
  have U1 := hide (hu.1.step b1)
  have UR := hide (show ∀ x ∈ f, Ra w (rx x.x) x.x.r M from fun x hx => (hu.2 x hx).more' hM1.1)
  have B1 := hide b1
  have HA := hide ha
  have HV := hide hv
  have HN := hide hlen
  have DN := hide hn
  have KL := hide (And.intro h1 (And.intro hL (And.intro h2 hK)))
  have HM := hide hM1
  have EM := hide (show (d.length + f.length) * (5 * M + 1) + 6 = (d.length + f.length) * (5 * (5 * (K + L)) + 1) + 6 by rw [hM])
  rw [← EM.out]
  unfold maxLen at hc2
  have hn9 : n ≤ 1000 := by omega
  clear ha hv hu b0 b1 hc3 hlen hM hM1 hn h1 hL h2 hK
  go_enter Tryz.func50, Tryz.ntmps50
  go_wp2_with (at_builtin; go_must (refine wpList_joinA rfl (.tmp 9) (.tmp 10) 47 rfl Tryz.underlying47 hi hz0 hz1 hz2 rfl (by omega) et_len et_one _ w.heap.size _ _ [] f U1.out O1.out rfl rfl (by have := DN.out; simp; omega) (by decide) B1.out.size ?_); intro v1 w1 ho hg; have T1 := hide (show Tj w w1 w.heap.size v1 f [] M from ⟨by rw [List.append_nil]; exact ho, UR.out, fun x hx => by cases hx⟩); have Q2 := hide (Q1.out.off O1.out hg); have B2 := hide (below_own B1.out O1.out hg B1.out.size); clear ho hg)
  go_loopw [7, 8] (fun ov iv wr => ∃ (k : Nat) (gs : List Tx), k ≤ n ∧ iv = .int .i64 (k : Int) ∧ Hid (tms gs = gmul ra (tms (d.take k))) ∧ Hid (gs.length = k) ∧ Hid (Below w.heap.size w wr) ∧ Hid (Bq wr w.heap.size a0.s (sv a0.u) (sv a0.t)) ∧ Hid (Tj w wr w.heap.size ov f gs M)) (fun _ iv _ => n - (intOf iv).toNat)
  case atStart => exact ⟨0, [], Nat.zero_le _, rfl, hide rfl, hide rfl, B2, Q2, T1⟩
  case round =>
    obtain ⟨k, gs, hk, rfl, E, GL, B, QB, T⟩ := hrel
    by_cases hlt : k < n
    · obtain ⟨x, hx⟩ := len_of (d := d) (k := k) (by rw [← HN.out]; exact hlt)
      have HC := hide (show ∀ W, Below w.heap.size w W → E4 W A (k * 4) x from fun W h => E4.of (HV.out.1.step h) hx)
      have b8 := (Below.refl wr.heap.size wr).drew
      have B5 := hide (Below.step B.out B.out.size b8)
      have T5 := hide (T.out.step b8)
      have Q5 := hide (QB.out.step b8)
      have A5 := hide (HA.out.step B5.out)
      have X5 := hide ((HV.out.2 x (List.mem_of_getElem? hx)).step B5.out)
      have HLEN := hide (show (f ++ gs).length + 1 ≤ 1000000000000 by have := GL.out; have := DN.out; have := HN.out; simp; omega)
      have EG := hide (show gmul ra (tms (d.take (k + 1))) = gmul ra (tms (d.take k)) ++ [(x.c, ra * x.x.r)] by rw [tms_snoc hx]; simp [gmul, tm])
      have l0 : (0 : Int) ≤ (k : Int) := by omega
      have l1 : (k : Int) < (n : Int) := by omega
      obtain ⟨b, off, rfl, -⟩ := HC.out w (Below.refl _ _)
      obtain ⟨c0, c1, c2, c3⟩ := (HC.out _ B5.out).cells
      obtain ⟨p0, p1, p2⟩ := bq3 Q5.out
      clear hx b8 T B QB
      go_wp2_with fail
      go_region_held3 (fun W => (W.cell? ⟨b, off + k * 4, none⟩ = some (.int .i64 x.c) ∧ W.cell? ⟨b, off + k * 4 + 1, none⟩ = some (.bool x.x.s) ∧ W.cell? ⟨b, off + k * 4 + 2, none⟩ = some (sv x.x.u) ∧ W.cell? ⟨b, off + k * 4 + 3, none⟩ = some (sv x.x.t)) ∧ W.cell? ⟨w.heap.size, 0, none⟩ = some (.bool a0.s) ∧ W.cell? ⟨w.heap.size, 1, none⟩ = some (sv a0.u) ∧ W.cell? ⟨w.heap.size, 2, none⟩ = some (sv a0.t))
        (with_reducible first | exact ⟨(HC.out _ B5.out).cells, bq3 Q5.out⟩ | exact ⟨(HC.out _ (B5.out.alloc B5.out.size _)).cells, bq3 (Q5.out.step (alloc_below _ _))⟩ | exact ⟨(HC.out _ CF.out).cells, bq3 QF.out⟩)
        (first
          | (go_at_call 20; refine Calls.mono (rof_f A5.out (by have := KL.out; omega) (by have := KL.out; omega)) ?_; rintro e wx ⟨y1, rfl, hy, ry, bx⟩; have Y1 := hide (show Rf wx (rx y1) ra _ from hy ▸ ry); clear hy ry A5; replace X5 := hide (X5.out.step bx); replace T5 := hide (T5.out.step bx); replace Q5 := hide (Q5.out.step bx); replace B5 := hide (Below.step B5.out B5.out.size bx); clear bx)
          | (go_at_call 20; refine Calls.mono (rof_f X5.out (by have := KL.out; omega) (by have := KL.out; omega)) ?_; rintro e wx ⟨y2, rfl, hy, ry, bx⟩; have Y2 := hide (show Rf wx (rx y2) x.x.r _ from hy ▸ ry); clear hy ry; replace Y1 := hide (Y1.out.step bx); replace T5 := hide (T5.out.step bx); replace Q5 := hide (Q5.out.step bx); replace B5 := hide (Below.step B5.out B5.out.size bx); clear bx)
          | (go_at_call 29; refine Calls.mono (rqmul_f Y1.out Y2.out (by have := KL.out; omega) (by have := KL.out; omega) (by have := KL.out; omega)) ?_; rintro e wx ⟨y3, rfl, hy, ry, bx⟩; have Y3 := hide (show Rf wx (rx y3) (ra * x.x.r) _ from hy ▸ ry); clear hy ry; replace T5 := hide (T5.out.step bx); replace Q5 := hide (Q5.out.step bx); replace B5 := hide (Below.step B5.out B5.out.size bx); clear bx)
          | (go_at_call 26; refine Calls.mono (rfto_g Y3.out (by have := KL.out; omega)) ?_; rintro e wx ⟨y, rfl, hy, ry, bx⟩; have H5 := hide hy; have Y4 := hide ((ry.mono (B' := w.heap.size) B5.out.size).more (M := M) HM.out.2.2.2); clear hy ry; replace T5 := hide (T5.out.step bx); replace Q5 := hide (Q5.out.step bx); replace B5 := hide (Below.step B5.out B5.out.size bx); clear bx)
          | (refine step_pushE rfl (.tmp 18) (.tmp 35) 47 rfl Tryz.underlying47 hi hz0 hz1 hz2 rfl (by omega) et_len et_one wx w.heap.size _ (f ++ gs) ⟨x.c, y⟩ _ rfl T5.out.1 rfl rfl HLEN.out (by decide) B5.out.size ?_; intro v' w' ho hg; have TF := hide (T5.out.push ho hg.1 Y4.out); have QF := hide (Q5.out.off T5.out.1 hg.1); have CF := hide (below_own B5.out T5.out.1 hg.1 B5.out.size); clear ho hg))
      all_goals
        have E2 := hide (show tms (gs ++ [⟨x.c, y⟩]) = gmul ra (tms (d.take (k + 1))) by rw [EG.out, tms_append, E.out, ← H5.out]; rfl)
        have K2 := hide (show (gs ++ [(⟨x.c, y⟩ : Tx)]).length = k + 1 by have := GL.out; simp; omega)
        clear T5 B5 Q5 X5 c0 c1 c2 c3 p0 p1 p2
        go_wp2_with fail
        exact ⟨⟨k + 1, gs ++ [⟨x.c, y⟩], by omega, by go_num, E2, K2, CF, QF, TF⟩, by simp [intOf]; omega⟩
    · obtain rfl : k = n := by omega
      have E2 := hide (show tms gs = gmul ra (tms d) by have h := E.out; rwa [List.take_of_length_le (by rw [← HN.out]; exact Nat.le_refl _)] at h)
      have TV := hide (T.out.tv B.out)
      have LN := hide (show (f ++ gs).length = d.length + f.length by rw [List.length_append, GL.out, HN.out, Nat.add_comm])
      have CM := hide (vmake_fl TV.out (by rw [LN.out]; exact DN.out) HM.out.2.1 (by have := HM.out.2.2.1; omega))
      have GS := hide (show ∀ c, 0 ≤ c → gsum (tms (f ++ gs)) c = ra * gsum (tms d) c + gsum (tms f) c from fun c _ => by rw [tms_append, gsum_append, E2.out, gsum_mul, Rat.add_comm])
      obtain ⟨A9, n9, c9, rfl⟩ := rv_sl TV.out.1
      clear T E
      go_wp2_with fail
      refine CM.out.mono ?_
      rintro e w9 ⟨v9, d9, rfl, t9, f9, g9, n9, b9⟩
      have N9 := hide (show d9.length ≤ d.length + f.length by rw [← LN.out]; exact n9)
      rw [LN.out] at t9
      have T9 := hide (t9.mono (B' := w.heap.size) B.out.size)
      have F9 := hide f9
      have G9 := hide (show ∀ c, 0 ≤ c → gsum (tms d9) c = ra * gsum (tms d) c + gsum (tms f) c from fun c hc => (g9 c hc).trans (GS.out c hc))
      have B9 := hide (Below.step B.out B.out.size b9)
      clear t9 f9 g9 n9 b9 CM
      go_wp2_with fail
      go_ret
      exact ⟨_, d9, rfl, T9.out, F9.out, G9.out, N9.out, B9.out⟩
end Go.Proofs.YtieicmcbdhaipaaGreat

/-
  Lists of rows: as they are read; one of them; a matrix times a list; sums of rows.
-/

namespace Go.Proofs.YtieicmcbdhaipaaGreat
open Go.RowKit Go.Proofs.YtieicmcbdhaipaaGreat.Num
set_option linter.unusedVariables false
set_option linter.unusedSimpArgs false
set_option maxRecDepth 100000

/-- A row: its slice, and its terms. -/
structure Vx where
  a : Sl
  d : List Tx
instance : Inhabited Vx := ⟨⟨(none, 0, 0), []⟩⟩
def em (x : Vx) : List Value := [sv x.a]
theorem em_len (x : Vx) : (em x).length = 1 := rfl
theorem em_one (x : Vx) : ∀ u ∈ em x, u.oneCell' = true := by
  intro u hu
  simp [em] at hu
  subst hu
  rfl
/-- The slice value reads as these rows, in any form. -/
def Mv (W : World) (v : Value) (m : List Vx) (L : Nat) : Prop := Lr em 1 W v m ∧ ∀ x ∈ m, Tv W (sv x.a) x.d L
theorem Mv.step {W W' : World} {v : Value} {m : List Vx} {L : Nat} (h : Mv W v m L) (hb : Below W.heap.size W W') : Mv W' v m L := ⟨h.1.step hb, fun x hx => (h.2 x hx).step hb⟩
theorem Mv.more {W : World} {v : Value} {m : List Vx} {L M : Nat} (h : Mv W v m L) (hL : L ≤ M) : Mv W v m M := ⟨h.1, fun x hx => (h.2 x hx).more hL⟩
/-- What a list of rows tells of a place: none ahead of it, and behind its end. -/
def rwA (m : List Vx) (i : Int) : List Tm := if 0 ≤ i then (match m[i.toNat]? with | some x => tms x.d | none => []) else []
theorem rwA_out (m : List Vx) (i : Int) (h : i < 0 ∨ (m.length : Int) ≤ i) : rwA m i = [] := by
  unfold rwA
  by_cases h0 : 0 ≤ i
  · rw [if_pos h0, List.getElem?_eq_none (by omega)]
  · rw [if_neg h0]
theorem rwA_in {m : List Vx} {k : Nat} {x : Vx} (h : m[k]? = some x) : rwA m (k : Int) = tms x.d := by
  unfold rwA
  rw [if_pos (by omega), Int.toNat_natCast, h]

set_option maxHeartbeats 4000000 in
theorem at_m {w : World} {v : Value} {m : List Vx} {L : Nat} (i : Int) (hv : Mv w v m L) :
    Calls Tryz.prog 176 #[v, .int .i64 i] w fun e w' => ∃ a d, e = .returned a ∧ tms d = rwA m i ∧ (∀ x ∈ m, d.length ≤ x.d.length ∨ True) ∧ Tv w' a d L ∧ (d = [] ∨ ∃ x ∈ m, x.d = d) ∧ Below w.heap.size w w' := by
  obtain ⟨A, c, e1, hc1, hc2, hc3⟩ := id hv.1
  obtain ⟨n, hlen⟩ : ∃ n, n = m.length := ⟨_, rfl⟩
  rw [← hlen] at e1 hc1
  subst e1
  have HV := hide hv
  have HN := hide hlen
  have NIL := hide (show ∀ W, Tv W (.slice none 0 0) [] L from fun W => ⟨Lr.nil et 4 _, fun x hx => by cases hx⟩)
  unfold maxLen at hc2
  clear hv hc3 hlen
  go_enter Tryz.func176, Tryz.ntmps176
  by_cases h0 : i < 0
  · have t0 : decide (i < 0) = true := decide_eq_true h0
    have hx := hide (rwA_out m i (.inl h0))
    clear h0
    go_wp2_with fail
    go_ret
    exact ⟨_, [], rfl, hx.out.symm, fun _ _ => .inr trivial, NIL.out _, .inl rfl, Below.refl _ _⟩
  · by_cases h2 : (n : Int) ≤ i
    · have t0 : decide (i < 0) = false := decide_eq_false h0
      have t1 : decide ((n : Int) ≤ i) = true := decide_eq_true h2
      have hx := hide (rwA_out m i (.inr (by rw [← HN.out]; exact h2)))
      clear h0 h2
      go_wp2_with fail
      go_ret
      exact ⟨_, [], rfl, hx.out.symm, fun _ _ => .inr trivial, NIL.out _, .inl rfl, Below.refl _ _⟩
    · obtain ⟨k, rfl⟩ : ∃ k : Nat, i = (k : Int) := ⟨i.toNat, by omega⟩
      have t0 : decide ((k : Int) < 0) = false := decide_eq_false h0
      have t1 : decide ((n : Int) ≤ (k : Int)) = false := decide_eq_false h2
      have t2 : decide (n ≤ k) = false := decide_eq_false (by omega)
      obtain ⟨x, hk⟩ := len_of (d := m) (k := k) (by rw [← HN.out]; omega)
      have hx := hide (rwA_in hk)
      obtain ⟨b, off, rfl, hb, hc⟩ := HV.out.1.get hk
      have c0 := hc 0 _ rfl
      rw [Nat.add_zero, Nat.mul_one] at c0
      have l0 : (0 : Int) ≤ (k : Int) := by omega
      have l1 : (k : Int) < (n : Int) := by omega
      have hm := hide (List.mem_of_getElem? hk)
      have RX := hide (HV.out.2 x hm.out)
      clear hc hb hk h0 h2
      go_wp2_with fail
      go_ret
      exact ⟨_, x.d, rfl, hx.out.symm, fun _ _ => .inr trivial, RX.out, .inr ⟨x, hm.out, rfl⟩, Below.refl _ _⟩

set_option maxHeartbeats 8000000 in
theorem times_m {w : World} {v u : Value} {m : List Vx} {f : List Rx} {L K N : Nat} (hv : Mv w v m L) (hu : Fv w u f K) (hm : m.length ≤ 100000) (hN : ∀ x ∈ m, x.d.length ≤ N) (hNN : N ≤ 1000) (h1 : 1 ≤ L) (hL : L ≤ 10000000) (h2 : 1 ≤ K) (hK : K ≤ 10000000) :
    Calls Tryz.prog 62 #[v, u] w fun e w' => ∃ v' l, e = .returned v' ∧ Fg w' w.heap.size v' l (N * (L + K + 1) + 1) ∧ l.length = m.length ∧ (∀ (j : Nat) x, l[j]? = some x → x.r = dt (rwA m (j : Int)) (xf f)) ∧ Below w.heap.size w w' := by
  obtain ⟨A, c, e1, hc1, hc2, hc3⟩ := id hv.1
  obtain ⟨n, hlen⟩ : ∃ n, n = m.length := ⟨_, rfl⟩
  rw [← hlen] at e1 hc1 hm ⊢
  subst e1
  obtain ⟨A2, n2, c2, rfl⟩ := rv_sl hu.1
  obtain ⟨M, hM⟩ : ∃ M, M = N * (L + K + 1) + 1 := ⟨_, rfl⟩
  rw [← hM]
  have HV := hide hv
  have HU := hide hu
  have HN := hide hlen
  have NN := hide hN
  have KL := hide (show ∀ q, q ≤ N → q * (L + K + 1) + 1 ≤ M from fun q hq => by rw [hM]; exact Nat.succ_le_succ (Nat.mul_le_mul_right _ hq))
  have PB := hide (And.intro h1 (And.intro hL (And.intro h2 hK)))
  unfold maxLen at hc2
  have hmk := make_rt n (by omega) w
  have O1 := hide (made3 w w.heap.size n (Nat.le_refl _) (by omega))
  have BA := hide (alloc_below w (.cells (madeCells #[.bool false, .slice none 0 0, .slice none 0 0] (n * 3)) 26))
  generalize madeCells #[.bool false, .slice none 0 0, .slice none 0 0] (n * 3) = Z at *
  have hpx : n ≤ 9223372036854775807 := by omega
  have hpz : (0 : Int) ≤ (n : Int) := by omega
  clear hv hu hc3 hlen hN hM h1 hL h2 hK
  go_enter Tryz.func62, Tryz.ntmps62
  go_wp2_with fail
  clear hmk
  generalize (w.alloc (.cells Z 26)) = w2 at *
  have S2 := hide (show Sc w2 w.heap.size (fun j => dt (rwA m (j : Int)) (xf f)) 0 n M (List.replicate n zrx) from ⟨by simp, fun j x h => by omega⟩)
  go_loopw [13] (fun iv wr => ∃ (k : Nat) (cur : List Rx), k ≤ n ∧ iv = .int .i64 (k : Int) ∧ Hid (Below w.heap.size w wr) ∧ Hid (Ow 26 er 3 wr w.heap.size (.slice (some ⟨w.heap.size, 0, none⟩) n n) cur) ∧ Hid (Sc wr w.heap.size (fun j => dt (rwA m (j : Int)) (xf f)) k n M cur)) (fun iv _ => n - (intOf iv).toNat)
  case atStart => exact ⟨0, _, Nat.zero_le _, rfl, BA, O1, S2⟩
  case round =>
    obtain ⟨k, cur, hk, rfl, B, O, S⟩ := hrel
    by_cases hlt : k < n
    · obtain ⟨x, hx⟩ := len_of (d := m) (k := k) (by rw [← HN.out]; exact hlt)
      have XR := hide (rwA_in hx)
      have hm9 := List.mem_of_getElem? hx
      have RX := hide ((HV.out.2 x hm9).step B.out)
      have NX := hide (NN.out x hm9)
      obtain ⟨b, off, rfl, hb, hc⟩ := (HV.out.1.step B.out).get hx
      have c0 := hc 0 _ rfl
      rw [Nat.add_zero, Nat.mul_one] at c0
      have l0 : (0 : Int) ≤ (k : Int) := by omega
      have l1 : (k : Int) < (n : Int) := by omega
      clear hc hb hx hm9
      go_wp2_with fail
      refine (dot_g RX.out (HU.out.step B.out) (by have := NX.out; omega) PB.out.1 PB.out.2.1 PB.out.2.2.1 PB.out.2.2.2).mono ?_
      rintro e w5 ⟨z, rfl, hz, rz, bx⟩
      have B5 := hide (Below.step B.out B.out.size bx)
      have O5 := hide (O.out.step bx)
      have S5 := hide (S.out.step bx)
      have Z5 := hide ((rz.mono (B' := w.heap.size) B.out.size).more (M := M) (KL.out _ NX.out))
      have HZ := hide (show z.r = dt (rwA m (k : Int)) (xf f) by rw [hz, XR.out])
      clear hz rz bx B O S RX c0
      obtain ⟨y, hy⟩ := len_of (d := cur) (k := k) (by rw [S5.out.1]; exact hlt)
      obtain ⟨⟨e0, e1, e2⟩, f0, f1, f2⟩ := O5.out.cellsR hy
      have hg := only_putR w5 w.heap.size (k * 3) (k * 3 + 1) (k * 3 + 2) (.bool z.s) (sv z.u) (sv z.t)
      have O6 := hide (O5.out.putR (i := k) (by rw [S5.out.1]; exact hlt) z)
      have S6 := hide (S5.out.put (lim' := k + 1) (val' := fun j => dt (rwA m (j : Int)) (xf f)) hlt HZ.out Z5.out (fun j h1 h2 => ⟨by omega, rfl⟩) hg (fun g e => O5.out.ot3 g (by rw [← e]; rfl)))
      have B6 := hide (show Below w.heap.size w _ from (B5.out.grown hg B5.out.size (fun g e => by injection e with e; subst e; exact (O5.out.lt rfl).1)))
      clear hy hg O5 S5 Z5 B5
      go_wp2_with fail
      exact ⟨⟨k + 1, _, by omega, by go_num, B6, O6, S6⟩, by simp [intOf]; omega⟩
    · obtain rfl : k = n := by omega
      have FIN := hide (show Fg wr w.heap.size (.slice (some ⟨w.heap.size, 0, none⟩) k k) cur M from ⟨O.out, fun x hx => by
        obtain ⟨j, hj, rfl⟩ := List.mem_iff_getElem.1 hx
        exact (S.out.2 j _ (by rw [← S.out.1]; exact hj) (List.getElem?_eq_getElem hj)).2⟩)
      have VAL := hide (show ∀ (j : Nat) x, cur[j]? = some x → x.r = dt (rwA m (j : Int)) (xf f) from fun j x hx => (S.out.2 j x (by rw [← S.out.1]; exact (List.getElem?_eq_some_iff.1 hx).1) hx).1)
      have LEN := hide S.out.1
      clear O S O1 S2
      go_wp2_with fail
      go_ret
      exact ⟨_, cur, rfl, FIN.out, LEN.out, VAL.out, B.out⟩
end Go.Proofs.YtieicmcbdhaipaaGreat

/-
  Sums of rows; a list times a matrix.
-/

namespace Go.Proofs.YtieicmcbdhaipaaGreat
open Go.RowKit Go.Proofs.YtieicmcbdhaipaaGreat.Num
set_option linter.unusedVariables false
set_option linter.unusedSimpArgs false
set_option maxRecDepth 100000

/-- append of a list, perhaps nil, to one of the call's own, in a region that draws. -/
theorem step_joinA {α : Type} {enc : α → List Value} {k : Nat} {P : Program} {ops : Array Oper} {o : Oper} {a : Act} {K : Act → World → Prop} {Q : Exit → Act → World → Prop} {E : Prop} (hgd : o.guard = none) (s y : Operand) (t : TypeId)
    (ho : o.op = .call { callee := .builtin .append, args := #[s, y], argTypes := #[t, t] })
    {e : TypeId} {i : TypeInfo} {z : Value} {by_ : Nat} (ht : P.underlying t = some (.slice e)) (hi : P.info? e = some i) (hz : i.zero = some z)
    (hsize : i.size = k) (hby : i.bytes = by_) (hzs : z.cells.size = k) (h0 : 0 < k) (hk : ∀ x, (enc x).length = k) (h1 : ∀ x, ∀ u ∈ enc x, u.oneCell' = true) (wr : World) (B : Nat) (v u : Value) (d d2 : List α)
    (hx : Lr enc k wr u d2) (hown : Ow e enc k wr B v d) (hs : a.eval s = v) (hy : a.eval y = u)
    (hlen : d.length + d2.length ≤ 1000000000000) (hb8 : by_ ≤ 128) (hB : B ≤ wr.heap.size)
    (h : ∀ v' w', Ow e enc k w' B v' (d ++ d2) → wr.grownBy w' v.ownBlock → K (a.put o.dst v') w') :
    if Region.wanted o (yielded ops a.tmps) = true then Oper.wp P o a wr K Q else E := by
  rw [if_pos (by simp [Region.wanted, hgd])]
  obtain ⟨A, c, rfl, hc1, hc2, hc3⟩ := id hx
  cases A with
  | none =>
    have h0 : d2 = [] := by
      rcases Nat.eq_zero_or_pos d2.length with h | h
      · exact List.length_eq_zero_iff.1 h
      · obtain ⟨b, off, e, _⟩ := hc3 h
        cases e
    subst h0
    have hv : ∃ A n c, v = .slice A n c ∧ n ≤ c := by
      rcases hown.form with ⟨rfl, _⟩ | ⟨g, cap, cur, rfl, _, _, _, h, _⟩
      · exact ⟨none, 0, 0, rfl, Nat.le_refl _⟩
      · exact ⟨_, _, _, rfl, h⟩
    obtain ⟨A, n, c0, rfl, hnc⟩ := hv
    have hr := run_join0 (P := P) (ty := o.type) ht hi wr A n c0 c hnc
    have h2 : Ow e enc k wr B (.slice A n c0) (d ++ []) := by rw [List.append_nil]; exact hown
    unfold Oper.wp execOp
    simp only [ho, resolve, invoke, builtin, Sem.run_bind, Sem.run_pure, Result.andThen_ok, List.map_toArray, List.map_cons, List.map_nil, hs, hy]
    erw [hr]
    exact h _ _ h2 (only_refl _ _)
  | some ad =>
    obtain ⟨v', w', hr, h2, h3⟩ := run_joinE (P := P) ht hi hz hsize hby hzs h0 hk h1 o.type wr B v d ad c d2 hx hown hlen hb8 hB
    unfold Oper.wp execOp
    simp only [ho, resolve, invoke, builtin, Sem.run_bind, Sem.run_pure, Result.andThen_ok, List.map_toArray, List.map_cons, List.map_nil, hs, hy, hr]
    exact h v' w' h2 h3.1
theorem Tg.join {W W' : World} {B K : Nat} {v v1 v' : Value} {os ds : List Tx} (T : Tg W B v os K) (D : Tg W B v1 ds K) (ho : Ow 63 et 4 W' B v' (os ++ ds)) (hg : W.grownBy W' v.ownBlock) : Tg W' B v' (os ++ ds) K := by
  refine ⟨ho, fun x hx => ?_⟩
  rcases List.mem_append.1 hx with h | h
  · exact (T.2 x h).grownT hg (fun g e => T.1.ot g e)
  · exact (D.2 x h).grownT hg (fun g e => T.1.ot g e)
/-- A variable that holds a term. -/
def Bt (W : World) (g : Nat) (x : Tx) : Prop := W.heap[g]? = some (.cells #[.int .i64 x.c, .bool x.x.s, sv x.x.u, sv x.x.t] 63 (0, 0))
theorem Bt.step {W W' : World} {g : Nat} {x : Tx} (h : Bt W g x) (hb : Below W.heap.size W W') : Bt W' g x := (hb.block g (Array.getElem?_eq_some_iff.1 h).1).trans h
theorem Bt.cells {W : World} {g : Nat} {x : Tx} (h : Bt W g x) : W.cell? ⟨g, 0, none⟩ = some (.int .i64 x.c) ∧ W.cell? ⟨g, 1, none⟩ = some (.bool x.x.s) ∧ W.cell? ⟨g, 2, none⟩ = some (sv x.x.u) ∧ W.cell? ⟨g, 3, none⟩ = some (sv x.x.t) := box_cells h
theorem Bt.lt {W : World} {g : Nat} {x : Tx} (h : Bt W g x) : g < W.heap.size := (Array.getElem?_eq_some_iff.1 h).1

set_option maxHeartbeats 8000000 in
theorem sum_m {w : World} {v u : Value} {o : List Tx} {m : List Vx} {L K N P : Nat} (hv : Tv w v o L) (hu : Mv w u m K) (hN : ∀ x ∈ m, x.d.length ≤ N) (hP : ∀ q, q ≤ N → q * (L + K + 1) + 1 ≤ P) (hPP : P ≤ 1000000) (ho : o.length * N ≤ 100000) (hNN : N ≤ 100000) (h1 : 1 ≤ L) (hL : L ≤ 500000) (h2 : 1 ≤ K) (hK : K ≤ 500000) (hoo : o.length ≤ 100000) :
    Calls Tryz.prog 127 #[v, u] w (VRet w (fun c => dt (tms o) (fun i => gsum (rwA m i) c)) (o.length * N) (o.length * N * (P + 1) + 1)) := by
  obtain ⟨i0, hi, hz0, hz1, hz2⟩ := info_parts info_tm
  obtain ⟨A, c, e1, hc1, hc2, hc3⟩ := id hv.1
  obtain ⟨n, hlen⟩ : ∃ n, n = o.length := ⟨_, rfl⟩
  rw [← hlen] at e1 hc1 ho hoo ⊢
  subst e1
  obtain ⟨A2, n2, c2, rfl⟩ := rv_sl hu.1
  have HV := hide hv
  have HU := hide hu
  have HN := hide hlen
  have NN := hide hN
  have PP := hide hP
  have PL := hide hPP
  have PB := hide (And.intro h1 (And.intro hL (And.intro h2 hK)))
  have ON := hide ho
  have NB := hide hNN
  have T0 := hide (show Tg w w.heap.size (.slice none 0 0) [] P from ⟨Ow.nil _ _ _ _ _, fun x hx => by cases hx⟩)
  unfold maxLen at hc2
  clear hv hu hc3 hlen hN hP hPP ho hNN h1 hL h2 hK
  go_enter Tryz.func127, Tryz.ntmps127
  go_wp2_with fail
  go_loopw [5, 10] (fun ov iv wr => ∃ (k : Nat) (os : List Tx), k ≤ n ∧ iv = .int .i64 (k : Int) ∧ Hid (∀ c, 0 ≤ c → gsum (tms os) c = dt (tms (o.take k)) (fun i => gsum (rwA m i) c)) ∧ Hid (os.length ≤ k * N) ∧ Hid (Below w.heap.size w wr) ∧ Hid (Tg wr w.heap.size ov os P)) (fun _ iv _ => n - (intOf iv).toNat)
  case atStart => exact ⟨0, [], Nat.zero_le _, rfl, hide (fun c _ => rfl), hide (Nat.zero_le _), hide (Below.refl _ _), T0⟩
  case round =>
    obtain ⟨k, os, hk, rfl, E, GL, B, T⟩ := hrel
    by_cases hlt : k < n
    · obtain ⟨x, hx⟩ := len_of (d := o) (k := k) (by rw [← HN.out]; exact hlt)
      have HX := hide hx
      have HC := hide (show E4 wr A (k * 4) x from E4.of (HV.out.1.step B.out) hx)
      obtain ⟨b, off, rfl, -⟩ := HC.out
      obtain ⟨c0, c1, c2', c3⟩ := HC.out.cells
      have b8 := (alloc_below wr (.cells #[.int .i64 x.c, .bool x.x.s, sv x.x.u, sv x.x.t] 63)).drew
      have B5 := hide (Below.step B.out B.out.size b8)
      have X5 := hide ((HV.out.2 x (List.mem_of_getElem? hx)).step B5.out)
      have U5 := hide (HU.out.step B5.out)
      have T5 := hide (T.out.step b8)
      have Q5 := hide (show Bt (wr.alloc (.cells #[.int .i64 x.c, .bool x.x.s, sv x.x.u, sv x.x.t] 63)).drew wr.heap.size x from heap_alloc_new wr (.cells #[.int .i64 x.c, .bool x.x.s, sv x.x.u, sv x.x.t] 63))
      have GB := hide (show os.length + N ≤ 1000000000 by
        have h1 := GL.out
        have h2 := ON.out
        have h3 : k * N ≤ n * N := Nat.mul_le_mul_right _ (by omega)
        have h4 := NB.out
        omega)
      have NE := hide (fun g (h : _ = some g) => (T.out.1.lt h).2)
      have l0 : (0 : Int) ≤ (k : Int) := by omega
      have l1 : (k : Int) < (n : Int) := by omega
      clear hx b8 T B
      go_wp2_with fail
      generalize (wr.alloc (.cells #[.int .i64 x.c, .bool x.x.s, sv x.x.u, sv x.x.t] 63)) = w3 at *
      generalize wr.heap.size = gb at *
      go_region_held3 (fun W => W.cell? ⟨gb, 0, none⟩ = some (.int .i64 x.c) ∧ W.cell? ⟨gb, 1, none⟩ = some (.bool x.x.s) ∧ W.cell? ⟨gb, 2, none⟩ = some (sv x.x.u) ∧ W.cell? ⟨gb, 3, none⟩ = some (sv x.x.t))
        (first | exact Q5.out.cells | exact QF.out.cells)
        (first
          | (go_at_call 176; refine Calls.mono (at_m x.c U5.out) ?_; rintro e wx ⟨av, d9, rfl, hd, -, t9, hd9, bx⟩; have D9 := hide hd; have R9 := hide t9; have N9 := hide (show d9.length ≤ N by rcases hd9 with h | ⟨y, hy, h⟩; (· rw [h]; exact Nat.zero_le _); (· rw [← h]; exact NN.out y hy)); replace X5 := hide (X5.out.step bx); replace T5 := hide (T5.out.step bx); replace Q5 := hide (Q5.out.step bx); replace B5 := hide (Below.step B5.out B5.out.size bx); clear hd t9 hd9 bx U5)
          | (go_at_call 49; refine Calls.mono (scale_t X5.out R9.out (by have := N9.out; have := NB.out; omega) PB.out.2.2.1 PB.out.2.2.2 PB.out.1 PB.out.2.1) ?_; rintro e wx ⟨v2, d2, rfl, t2, f2, g2, n2', bx⟩; have S2 := hide ((t2.mono (B' := w.heap.size) B5.out.size).more (M := P) (PP.out _ N9.out)); have G2 := hide (show ∀ c, 0 ≤ c → gsum (tms d2) c = x.x.r * gsum (rwA m x.c) c from fun c hc => by rw [g2 c hc, D9.out]); have N2 := hide (show d2.length ≤ N from Nat.le_trans n2' N9.out); replace T5 := hide (T5.out.step bx); replace Q5 := hide (Q5.out.step bx); replace B5 := hide (Below.step B5.out B5.out.size bx); clear t2 f2 g2 n2' bx X5)
          | (refine step_joinA rfl (.tmp 14) (.tmp 21) 47 rfl Tryz.underlying47 hi hz0 hz1 hz2 rfl (by omega) et_len et_one wx w.heap.size _ _ os d2 S2.out.tv.1 T5.out.1 rfl rfl (by have := GB.out; have := N2.out; omega) (by decide) B5.out.size ?_; intro v' w' ho hg; have TF := hide (T5.out.join S2.out ho hg); have QF := hide (show Bt w' gb x from (hg.block gb Q5.out.lt (fun e => by have := NE.out gb e.symm; omega)).trans Q5.out); have CF := hide (below_own B5.out T5.out.1 hg B5.out.size); clear ho hg))
      all_goals
        have E2 := hide (show ∀ c, 0 ≤ c → gsum (tms (os ++ d2)) c = dt (tms (o.take (k + 1))) (fun i => gsum (rwA m i) c) from fun c hc => by rw [dt_take HX.out, tms_append, gsum_append, E.out c hc, G2.out c hc])
        have K2 := hide (show (os ++ d2).length ≤ (k + 1) * N by rw [List.length_append, Nat.add_mul]; have := GL.out; have := N2.out; omega)
        clear T5 Q5 B5 c0 c1 c2' c3
        go_wp2_with fail
        exact ⟨⟨k + 1, os ++ d2, by omega, by go_num, E2, K2, CF, TF⟩, by simp [intOf]; omega⟩
    · obtain rfl : k = n := by omega
      have E2 := hide (show ∀ c, 0 ≤ c → gsum (tms os) c = dt (tms o) (fun i => gsum (rwA m i) c) from fun c hc => by have h := E.out c hc; rwa [List.take_of_length_le (by rw [← HN.out]; exact Nat.le_refl _)] at h)
      have MC := hide (make_v T.out.tv (by have := GL.out; have := ON.out; omega) (by have := PP.out 0 (Nat.zero_le _); omega) PL.out)
      obtain ⟨A9, n9, c9, rfl⟩ := rv_sl T.out.tv.1
      clear E T
      go_wp2_with fail
      refine MC.out.mono ?_
      rintro e w9 h
      have F := hide (h.later B.out E2.out GL.out (Nat.succ_le_succ (Nat.mul_le_mul_right _ GL.out)))
      obtain ⟨v', d', rfl, -⟩ := h
      clear MC
      go_wp2_with fail
      go_ret
      exact F.out
/-- A list times a matrix. -/
theorem sm_ext {n k : Nat} {f : Nat → Rat} (hk : n ≤ k) (h : ∀ i, n ≤ i → f i = 0) : sm k f = sm n f := by
  induction k with
  | zero => rw [show n = 0 by omega]
  | succ k ih =>
    by_cases e : n = k + 1
    · rw [e]
    · rw [sm, ih (by omega), h k (by omega), Rat.add_zero]
theorem dt_rows {o : List Tm} {m : List Vx} {y : Int → Rat} (h : ∀ c, 0 ≤ c → gsum o c = y c) (c : Int) : dt o (fun i => gsum (rwA m i) c) = sm m.length (fun i => y (i : Int) * gsum (rwA m (i : Int)) c) := by
  rw [dt_sum o m.length _ (fun i hi => by show gsum (rwA m i) c = 0; rw [rwA_out m i hi]; rfl)]
  refine sm_congr (fun i _ => ?_)
  show gt o (i : Int) * gsum (rwA m (i : Int)) c = _
  rw [gt, if_pos (by omega), h _ (by omega)]
set_option maxHeartbeats 4000000 in
theorem timest_m {w : World} {u v : Value} {f : List Rx} {m : List Vx} {L K N P : Nat} (hu : Fv w u f L) (hv : Mv w v m K) (hN : ∀ x ∈ m, x.d.length ≤ N) (hP : ∀ q, q ≤ N → q * (L + K + 1) + 1 ≤ P) (hPP : P ≤ 1000000) (hf : f.length * N ≤ 100000) (hNN : N ≤ 100000) (h1 : 1 ≤ L) (hL : L ≤ 500000) (h2 : 1 ≤ K) (hK : K ≤ 500000) (hff : f.length ≤ 100000) :
    Calls Tryz.prog 63 #[u, v] w (VRet w (fun c => sm m.length (fun i => xf f (i : Int) * gsum (rwA m (i : Int)) c)) (f.length * N) (f.length * N * (P + 1) + 1)) := by
  obtain ⟨A, n, c, rfl⟩ := rv_sl hu.1
  obtain ⟨A2, n2, c2, rfl⟩ := rv_sl hv.1
  have HV := hide hv
  have HC := hide (fun W (v1 : Value) (o : List Tx) (h : Tv W v1 o L) (hl : o.length ≤ f.length) (hb : Below w.heap.size w W) => sum_m h (hv.step hb) hN hP hPP (Nat.le_trans (Nat.mul_le_mul_right _ hl) hf) hNN h1 hL h2 hK (by omega))
  have GC := hide (gather_g hu hff h1 (by omega))
  clear hu hv hN hP hPP hf hNN h1 hL h2 hK hff
  go_enter Tryz.func63, Tryz.ntmps63
  go_wp2_with fail
  refine GC.out.mono ?_
  rintro e w1 ⟨v1, d1, rfl, t1, f1, g1, n1, b1⟩
  have SC := hide (HC.out w1 v1 d1 t1.tv n1 b1)
  have B1 := hide b1
  have G1 := hide g1
  have N1 := hide n1
  obtain ⟨A1, n1', c1, rfl⟩ := rv_sl t1.tv.1
  clear t1 f1 g1 n1 b1 GC HC
  go_wp2_with fail
  refine SC.out.mono ?_
  rintro e w2 h
  have F := hide (h.later (g := fun c => sm m.length (fun i => xf f (i : Int) * gsum (rwA m (i : Int)) c)) B1.out (fun c _ => dt_rows G1.out c) (Nat.mul_le_mul_right _ N1.out) (Nat.succ_le_succ (Nat.mul_le_mul_right _ (Nat.mul_le_mul_right _ N1.out))))
  obtain ⟨v', d', rfl, -⟩ := h
  clear SC
  go_wp2_with fail
  go_ret
  exact F.out
end Go.Proofs.YtieicmcbdhaipaaGreat

/-
  Matrices as the laws handle them: whether one is greater than is looked at; copied, compared; the document's own products.
-/

namespace Go.Proofs.YtieicmcbdhaipaaGreat
open Go.RowKit Go.Proofs.YtieicmcbdhaipaaGreat.Num
set_option linter.unusedVariables false
set_option linter.unusedSimpArgs false
set_option maxRecDepth 100000

set_option maxHeartbeats 4000000 in
theorem great_m {w : World} {v : Value} {m : List Vx} {L : Nat} (hv : Mv w v m L) (hL : L ≤ 17592186044000) :
    Calls Tryz.prog 60 #[v] w fun e w' => Below w.heap.size w w' ∧ ∃ b : Bool, e = .returned (.bool b) ∧ (b = false → m.length ≤ 12 ∧ ∀ x ∈ m, x.d.length ≤ 30 ∧ ∀ t ∈ x.d, t.x.u.2.1 + t.x.t.2.1 ≤ 6) := by
  obtain ⟨A, c, e1, hc1, hc2, hc3⟩ := id hv.1
  obtain ⟨n, hlen⟩ : ∃ n, n = m.length := ⟨_, rfl⟩
  rw [← hlen] at e1 hc1 ⊢
  subst e1
  have HV := hide hv
  have HN := hide hlen
  unfold maxLen at hc2
  clear hv hc3 hlen
  go_enter Tryz.func60, Tryz.ntmps60
  go_wp2_with fail
  go_loopw [3, 4] (fun sv0 iv wr => ∃ (k : Nat) (z : Int), k ≤ n ∧ sv0 = .int .i64 z ∧ iv = .int .i64 (k : Int) ∧ Hid (Below w.heap.size w wr) ∧ Hid (∀ (j : Nat) x, j < k → m[j]? = some x → x.d.length ≤ 30 ∧ ∀ t ∈ x.d, t.x.u.2.1 + t.x.t.2.1 ≤ 6)) (fun _ iv _ => n - (intOf iv).toNat)
  case atStart => exact ⟨0, 0, Nat.zero_le _, rfl, rfl, hide (Below.refl _ _), hide (fun j x h => by omega)⟩
  case round =>
    obtain ⟨k, z, hk, rfl, rfl, B, P⟩ := hrel
    by_cases hlt : k < n
    · obtain ⟨x, hx⟩ := len_of (d := m) (k := k) (by rw [← HN.out]; exact hlt)
      have hm := List.mem_of_getElem? hx
      have RX := hide ((HV.out.2 x hm).step B.out)
      obtain ⟨b, off, rfl, hb, hc⟩ := (HV.out.1.step B.out).get hx
      have c0 := hc 0 _ rfl
      rw [Nat.add_zero, Nat.mul_one] at c0
      have HX := hide hx
      have l0 : (0 : Int) ≤ (k : Int) := by omega
      have l1 : (k : Int) < (n : Int) := by omega
      clear hc hb hx hm
      go_wp2_with fail
      refine (great_c RX.out hL).mono ?_
      rintro e w2 ⟨bx, p, rfl, hp⟩
      have B2 := hide (Below.step B.out B.out.size bx)
      have R2 := hide (RX.out.step bx)
      have HP := hide hp
      have c1 := cell_keep c0 bx
      clear bx hp c0 RX
      cases p with
      | true =>
        go_wp2_with fail
        go_ret
        exact ⟨B2.out, true, rfl, fun h => by cases h⟩
      | false =>
        have Q := hide (HP.out rfl)
        go_wp2_with fail
        refine (weights_c R2.out hL (by have := Q.out.1; omega)).mono ?_
        rintro e w3 ⟨z2, rfl, bx⟩
        have B3 := hide (Below.step B2.out B2.out.size bx)
        have P3 := hide (show ∀ (j : Nat) y, j < k + 1 → m[j]? = some y → y.d.length ≤ 30 ∧ ∀ t ∈ y.d, t.x.u.2.1 + t.x.t.2.1 ≤ 6 from fun j y hj hy => by
          by_cases h : j = k
          · subst h
            rw [HX.out] at hy
            injection hy with hy
            subst hy
            exact Q.out
          · exact P.out j y (by omega) hy)
        clear bx c1 P
        go_wp2_with fail
        exact ⟨⟨k + 1, _, by omega, rfl, by go_num, B3, P3⟩, by simp [intOf]; omega⟩
    · obtain rfl : k = n := by omega
      have HP := hide (show ∀ x ∈ m, x.d.length ≤ 30 ∧ ∀ t ∈ x.d, t.x.u.2.1 + t.x.t.2.1 ≤ 6 from fun x hx => by
        obtain ⟨j, hj, e⟩ := List.getElem_of_mem hx
        exact P.out j x (by rw [HN.out]; exact hj) (by rw [List.getElem?_eq_getElem hj, e]))
      by_cases h12 : 12 < k
      · have t1 : decide ((12 : Int) < (k : Int)) = true := decide_eq_true (by omega)
        go_wp2_with fail
        go_ret
        exact ⟨B.out, true, rfl, fun h => by cases h⟩
      · have t1 : decide ((12 : Int) < (k : Int)) = false := decide_eq_false (by omega)
        go_wp2_with fail
        go_ret
        exact ⟨B.out, _, rfl, fun _ => ⟨by omega, HP.out⟩⟩
theorem Mv.tight {W : World} {v : Value} {m : List Vx} {L : Nat} (h : Mv W v m L) (hs : ∀ x ∈ m, ∀ t ∈ x.d, t.x.u.2.1 + t.x.t.2.1 ≤ 6) : Mv W v m 6 := ⟨h.1, fun x hx => (h.2 x hx).tight (hs x hx)⟩

/-- The slice value reads as rows of just these words. -/
def Ml (W : World) (v : Value) (m : List Vx) (zs : List (List Zt)) (L : Nat) : Prop := Lr em 1 W v m ∧ m.length = zs.length ∧ ∀ (i : Nat) x z, m[i]? = some x → zs[i]? = some z → Tl W (sv x.a) x.d z L
theorem Ml.step {W W' : World} {v : Value} {m : List Vx} {zs : List (List Zt)} {L : Nat} (h : Ml W v m zs L) (hb : Below W.heap.size W W') : Ml W' v m zs L := ⟨h.1.step hb, h.2.1, fun i x z hx hz => (h.2.2 i x z hx hz).step hb⟩
theorem Ml.mv {W : World} {v : Value} {m : List Vx} {zs : List (List Zt)} {L : Nat} (h : Ml W v m zs L) : Mv W v m L := ⟨h.1, fun x hx => by
  obtain ⟨i, hi, rfl⟩ := List.mem_iff_getElem.1 hx
  have hx' : m[i]? = some m[i] := List.getElem?_eq_getElem hi
  obtain ⟨z, hz⟩ := zs_at h.2.1 hx'
  exact (h.2.2 i _ z hx' hz).tv⟩
theorem ml_of {W : World} {v : Value} {m : List Vx} {L : Nat} (h : Mv W v m L) : ∃ zs, Ml W v m zs L := by
  obtain ⟨zs, hl, hz⟩ := list_choose (P := fun (x : Vx) (z : List Zt) => Tl W (sv x.a) x.d z L) m (fun x hx => tl_of (h.2 x hx))
  exact ⟨zs, h.1, hl, hz⟩
theorem Ml.rwA {W W' : World} {v v' : Value} {m f : List Vx} {zs : List (List Zt)} {L M : Nat} (h : Ml W v m zs L) (k : Ml W' v' f zs M) : rwA m = rwA f := by
  funext i
  unfold Go.Proofs.YtieicmcbdhaipaaGreat.rwA
  by_cases h0 : 0 ≤ i
  · rw [if_pos h0, if_pos h0]
    by_cases hi : i.toNat < m.length
    · obtain ⟨x, hx⟩ := len_of hi
      obtain ⟨z, hz⟩ := zs_at h.2.1 hx
      obtain ⟨y, hy⟩ := len_of (d := f) (k := i.toNat) (by have := h.2.1; have := k.2.1; omega)
      rw [hx, hy]
      exact (h.2.2 _ x z hx hz).tms (k.2.2 _ y z hy hz)
    · rw [List.getElem?_eq_none (by omega), List.getElem?_eq_none (by have := h.2.1; have := k.2.1; omega)]
  · rw [if_neg h0, if_neg h0]
/-- In memory of the call's own. -/
def Mw (W : World) (B : Nat) (v : Value) (m : List Vx) (zs : List (List Zt)) (L : Nat) : Prop := Ow 47 em 1 W B v m ∧ m.length = zs.length ∧ ∀ (i : Nat) x z, m[i]? = some x → zs[i]? = some z → Tw W B (sv x.a) x.d z L
theorem Mw.step {W W' : World} {B : Nat} {v : Value} {m : List Vx} {zs : List (List Zt)} {L : Nat} (h : Mw W B v m zs L) (hb : Below W.heap.size W W') : Mw W' B v m zs L := ⟨h.1.step hb, h.2.1, fun i x z hx hz => (h.2.2 i x z hx hz).step hb⟩
theorem Mw.ml {W : World} {B : Nat} {v : Value} {m : List Vx} {zs : List (List Zt)} {L : Nat} (h : Mw W B v m zs L) : Ml W v m zs L := ⟨h.1.rl em_len, h.2.1, fun i x z hx hz => (h.2.2 i x z hx hz).tl⟩
theorem Tw.mono {W : World} {B B' : Nat} {v : Value} {d : List Tx} {zs : List Zt} {L : Nat} (h : Tw W B v d zs L) (hB : B' ≤ B) : Tw W B' v d zs L := ⟨h.1.mono hB, h.2.1, fun i x z hx hz => ⟨(h.2.2 i x z hx hz).1, (h.2.2 i x z hx hz).2.mono hB⟩⟩
theorem Ow.otm {W : World} {B : Nat} {v : Value} {d : List Vx} (h : Ow 47 em 1 W B v d) : ∀ g, v.ownBlock = some g → Ot W g := by
  intro g hg
  rcases h.form with ⟨rfl, _⟩ | ⟨g', cap, cur, rfl, hB, hlt, hh, r⟩
  · cases hg
  · have e : g' = g := by simpa [Value.ownBlock] using hg
    subst e
    exact ⟨_, _, _, hh, by decide⟩
theorem Tw.keptM {W W' : World} {B L B' : Nat} {v u : Value} {d : List Tx} {zs : List Zt} {f : List Vx} (h : Tw W B v d zs L) (ho : Ow 47 em 1 W B' u f) (hg : W.grownBy W' u.ownBlock) : Tw W' B v d zs L :=
  ⟨h.1.kept hg (ow_ow_ne h.1 ho (by decide)), h.2.1, fun i x z hx hz => ⟨(h.2.2 i x z hx hz).1, (h.2.2 i x z hx hz).2.grownT hg (fun g e => ho.otm g e)⟩⟩
theorem Mw.push {W W' : World} {B L : Nat} {v v' : Value} {m : List Vx} {zs : List (List Zt)} {x : Vx} {z : List Zt} (T : Mw W B v m zs L) (ho : Ow 47 em 1 W' B v' (m ++ [x])) (hg : W.grownBy W' v.ownBlock) (hx : Tw W B (sv x.a) x.d z L) : Mw W' B v' (m ++ [x]) (zs ++ [z]) L := by
  refine ⟨ho, by simp [T.2.1], fun i y u hy hu => ?_⟩
  by_cases hi : i < m.length
  · rw [List.getElem?_append_left hi] at hy
    rw [List.getElem?_append_left (by have := T.2.1; omega)] at hu
    exact (T.2.2 i y u hy hu).keptM T.1 hg
  · rw [List.getElem?_append_right (by omega)] at hy
    rw [List.getElem?_append_right (by have := T.2.1; omega), ← T.2.1] at hu
    have hj : i - m.length = 0 := by
      have := (List.getElem?_eq_some_iff.1 hy).1
      simp at this
      omega
    rw [hj] at hy hu
    simp at hy hu
    subst hy hu
    exact hx.keptM T.1 hg
theorem info_row : (Tryz.prog.info? 47).map (fun i => (i.zero, i.size, i.bytes)) = some (some (.slice none 0 0), 1, 24) := by kernel_rfl

set_option maxHeartbeats 8000000 in
theorem copy_m {w : World} {v : Value} {m : List Vx} {zs : List (List Zt)} {L : Nat} (hv : Ml w v m zs L) (hL : L ≤ 17592186044000) (hn : m.length ≤ 1000000) (hd : ∀ x ∈ m, x.d.length ≤ 1000000) :
    Calls Tryz.prog 61 #[v] w fun e w' => ∃ v' m', e = .returned v' ∧ Mw w' w.heap.size v' m' zs L ∧ Below w.heap.size w w' := by
  obtain ⟨i0, hi, hz0, hz1, hz2⟩ := info_parts info_row
  obtain ⟨A, c, e1, hc1, hc2, hc3⟩ := id hv.1
  obtain ⟨n, hlen⟩ : ∃ n, n = m.length := ⟨_, rfl⟩
  rw [← hlen] at e1 hc1
  subst e1
  have b0 := alloc_below w (.cells #[] 47)
  have HV := hide hv
  have T0 := hide (show Mw (w.alloc (.cells #[] 47)) w.heap.size (.slice (some ⟨w.heap.size, 0, none⟩) 0 0) [] (zs.take 0) L from ⟨Ow.lit (B := w.heap.size) em_len w 47 ([] : List Vx) #[] rfl (Nat.le_refl _) (by simp [maxLen]), by simp, fun i x z hx => by simp at hx⟩)
  have B0 := hide b0
  have DN := hide hn
  have HN := hide hlen
  have HZ := hide hv.2.1
  have HL := hide hL
  have HD := hide hd
  unfold maxLen at hc2
  clear hv b0 hn hc3 hlen hd
  go_enter Tryz.func61, Tryz.ntmps61
  go_wp2_with fail
  go_loopw [3, 4] (fun ov iv wr => ∃ (k : Nat) (os : List Vx), k ≤ n ∧ iv = .int .i64 (k : Int) ∧ Hid (os.length = k) ∧ Hid (Below w.heap.size w wr) ∧ Hid (Mw wr w.heap.size ov os (zs.take k) L)) (fun _ iv _ => n - (intOf iv).toNat)
  case atStart => exact ⟨0, [], Nat.zero_le _, rfl, hide rfl, B0, T0⟩
  case round =>
    obtain ⟨k, os, hk, rfl, KL, B, T⟩ := hrel
    by_cases hlt : k < n
    · obtain ⟨x, hx⟩ := len_of (d := m) (k := k) (by rw [← HN.out]; exact hlt)
      obtain ⟨z, hz⟩ := zs_at HZ.out hx
      have X5 := hide ((HV.out.2.2 k x z hx hz).step B.out)
      have DX := hide (HD.out x (List.mem_of_getElem? hx))
      have HLEN := hide (show os.length + 1 ≤ 1000000000000 by have := KL.out; have := DN.out; have := HN.out; omega)
      have EZ := hide (show zs.take (k + 1) = zs.take k ++ [z] from take_snoc hz)
      have l0 : (0 : Int) ≤ (k : Int) := by omega
      have l1 : (k : Int) < (n : Int) := by omega
      obtain ⟨b, off, rfl, hb, hcs⟩ := (HV.out.1.step B.out).get hx
      have c0 := hcs 0 _ rfl
      rw [Nat.add_zero, Nat.mul_one] at c0
      clear hx hz hcs hb
      go_wp2_with fail
      refine (copy_v X5.out HL.out DX.out).mono ?_
      rintro e wx ⟨y, yd, rfl, zy, bx⟩
      obtain ⟨A8, n8, c8, rfl⟩ := rv_sl zy.tl.1
      have T7 := hide (T.out.step bx)
      have B7 := hide (Below.step B.out B.out.size bx)
      have Z7 := hide (zy.mono (B' := w.heap.size) B.out.size)
      clear zy bx c0 T
      go_wp2_with (at_builtin; go_must (refine wpList_pushE rfl (.tmp 12) (.tmp 18) 72 rfl Tryz.underlying72 hi hz0 hz1 hz2 rfl (by omega) em_len em_one wx w.heap.size _ os ⟨(A8, n8, c8), yd⟩ _ rfl T7.out.1 rfl rfl HLEN.out (by decide) B7.out.size ?_); intro v' w' ho hg; have TF := hide (T7.out.push ho hg.1 Z7.out); have CF := hide (below_own B7.out T7.out.1 hg.1 B7.out.size); clear ho hg)
      have TG := hide (show Mw w' w.heap.size v' (os ++ [⟨(A8, n8, c8), yd⟩]) (zs.take (k + 1)) L by rw [EZ.out]; exact TF.out)
      have K2 := hide (show (os ++ [(⟨(A8, n8, c8), yd⟩ : Vx)]).length = k + 1 by have := KL.out; simp; omega)
      exact ⟨⟨k + 1, os ++ [⟨(A8, n8, c8), yd⟩], by omega, by go_num, K2, CF, TG⟩, by simp [intOf]; omega⟩
    · obtain rfl : k = n := by omega
      have TT := hide (show Mw wr w.heap.size _ os zs L by have h := T.out; rwa [List.take_of_length_le (by rw [← HZ.out, ← HN.out]; exact Nat.le_refl _)] at h)
      clear T
      go_wp2_with fail
      go_ret
      exact ⟨_, os, rfl, TT.out, B.out⟩
end Go.Proofs.YtieicmcbdhaipaaGreat

/-
  Matrices compared; the document's own Times.
-/

namespace Go.Proofs.YtieicmcbdhaipaaGreat
open Go.RowKit Go.Proofs.YtieicmcbdhaipaaGreat.Num
set_option linter.unusedVariables false
set_option linter.unusedSimpArgs false
set_option maxRecDepth 100000

/-- Rows in their one form. -/
def Mc (W : World) (v : Value) (m : List Vx) (L : Nat) : Prop := Lr em 1 W v m ∧ ∀ x ∈ m, Tc W (sv x.a) x.d L
theorem Mc.step {W W' : World} {v : Value} {m : List Vx} {L : Nat} (h : Mc W v m L) (hb : Below W.heap.size W W') : Mc W' v m L := ⟨h.1.step hb, fun x hx => (h.2 x hx).step hb⟩
set_option maxHeartbeats 8000000 in
theorem same_mg {w : World} {u v : Value} {m f : List Vx} (hu : Lr em 1 w u m) (hv : Lr em 1 w v f) (hl : f.length = m.length)
    (hs : ∀ W (i : Nat) x y, Below w.heap.size w W → m[i]? = some x → f[i]? = some y → Calls Tryz.prog 43 #[sv x.a, sv y.a] W fun e w' => e = .returned (.bool true) ∧ Below W.heap.size W w') :
    Calls Tryz.prog 66 #[u, v] w fun e w' => e = .returned (.bool true) ∧ Below w.heap.size w w' := by
  obtain ⟨A, c, e1, hc1, hc2, hc3⟩ := id hu
  obtain ⟨D, q, e2, hd1, hd2, hd3⟩ := id hv
  obtain ⟨n, hlen⟩ : ∃ n, n = m.length := ⟨_, rfl⟩
  rw [hl] at e2 hd1
  rw [← hlen] at e1 e2 hc1 hd1
  subst e1 e2
  have HU := hide hu
  have HV := hide hv
  have HS := hide hs
  have HN := hide hlen
  have HL := hide hl
  unfold maxLen at hc2
  have t0 : ((n : Int) != (n : Int)) = false := by simp
  clear hu hv hc3 hd3 hl hlen hs
  go_enter Tryz.func66, Tryz.ntmps66
  go_wp2_with fail
  go_loopw [5] (fun iv wr => ∃ k : Nat, k ≤ n ∧ iv = .int .i64 (k : Int) ∧ Hid (Below w.heap.size w wr)) (fun iv _ => n - (intOf iv).toNat)
  case atStart => exact ⟨0, Nat.zero_le _, rfl, hide (Below.refl _ _)⟩
  case round =>
    obtain ⟨k, hk, rfl, B⟩ := hrel
    by_cases hlt : k < n
    · obtain ⟨x, hx⟩ := len_of (d := m) (k := k) (by rw [← HN.out]; exact hlt)
      obtain ⟨y, hy⟩ := len_of (d := f) (k := k) (by rw [HL.out, ← HN.out]; exact hlt)
      have b8 := (Below.refl wr.heap.size wr).drew
      have B8 := hide (Below.step B.out B.out.size b8)
      have SC := hide (HS.out _ k x y B8.out hx hy)
      obtain ⟨b, off, rfl, hb, hc⟩ := ((HU.out.step B.out).step b8).get hx
      obtain ⟨b', off', rfl, hb', hc'⟩ := ((HV.out.step B.out).step b8).get hy
      have c0 := hc 0 _ rfl
      have e0 := hc' 0 _ rfl
      rw [Nat.add_zero, Nat.mul_one] at c0 e0
      have l0 : (0 : Int) ≤ (k : Int) := by omega
      have l1 : (k : Int) < (n : Int) := by omega
      have P := hide (And.intro c0 e0)
      clear hc hc' hb hb' hx hy b8
      go_wp2_with fail
      go_region_held3 (fun W => W.cell? ⟨b, off + k, none⟩ = some (sv x.a) ∧ W.cell? ⟨b', off' + k, none⟩ = some (sv y.a))
        (exact P.out)
        (first
          | (go_at_call 43; refine Calls.mono SC.out ?_; rintro e wx ⟨rfl, bx⟩; replace P := hide (And.intro (cell_keep P.out.1 bx) (cell_keep P.out.2 bx)); have B9 := hide (Below.step B8.out B8.out.size bx)))
      all_goals
        clear P c0 e0 SC
        go_wp2_with fail
        exact ⟨⟨k + 1, by omega, by go_num, B9⟩, by simp [intOf]; omega⟩
    · obtain rfl : k = n := by omega
      go_wp2_with fail
      go_ret
      exact ⟨rfl, B.out⟩
theorem same_mv {w : World} {u v : Value} {m f : List Vx} {zs : List (List Zt)} {L M : Nat} (hu : Ml w u m zs L) (hv : Ml w v f zs M) :
    Calls Tryz.prog 66 #[u, v] w fun e w' => e = .returned (.bool true) ∧ Below w.heap.size w w' :=
  same_mg hu.1 hv.1 (by rw [hv.2.1, hu.2.1]) (fun W i x y hb hx hy => by
    obtain ⟨z, hz⟩ := zs_at hu.2.1 hx
    exact same_v ((hu.2.2 i x z hx hz).step hb) ((hv.2.2 i y z hy hz).step hb))
theorem same_mt {w : World} {u v : Value} {m f : List Vx} {L M : Nat} (hu : Mc w u m L) (hv : Mc w v f M) (hl : f.length = m.length) (he : ∀ (i : Nat) x y, m[i]? = some x → f[i]? = some y → tms x.d = tms y.d) :
    Calls Tryz.prog 66 #[u, v] w fun e w' => e = .returned (.bool true) ∧ Below w.heap.size w w' :=
  same_mg hu.1 hv.1 hl (fun W i x y hb hx hy => same_t ((hu.2 x (List.mem_of_getElem? hx)).step hb) ((hv.2 y (List.mem_of_getElem? hy)).step hb) (he i x y hx hy))

set_option maxHeartbeats 8000000 in
theorem rtimes_f {w : World} {v u : Value} {m : List Vx} {f : List Rx} {L K N P : Nat} (hv : Mv w v m L) (hu : Fv w u f K) (hm : m.length ≤ 100000) (hN : ∀ x ∈ m, x.d.length ≤ N) (hNN : N ≤ 1000) (h1 : 1 ≤ L) (hL : L ≤ 100000) (h2 : 1 ≤ K) (hK : K ≤ 100000) (hf : f.length ≤ 1000)
    (hG : N * (5 * L + 1) + 6 + 5 * K + 1 ≤ 3000000) (hP : f.length * (N * (5 * L + 1) + 6 + 5 * K + 1) + 6 = P) (hPP : P ≤ 4000000000) :
    Calls Tryz.prog 64 #[v, u] w fun e w' => ∃ v' l, e = .returned v' ∧ Fg w' w.heap.size v' l P ∧ l.length = m.length ∧ (∀ (j : Nat) x, l[j]? = some x → x.r = dt (rwA m (j : Int)) (xf f)) ∧ Below w.heap.size w w' := by
  obtain ⟨i0, hi, hz0, hz1, hz2⟩ := info_parts info_rt
  obtain ⟨A, c, e1, hc1, hc2, hc3⟩ := id hv.1
  obtain ⟨n, hlen⟩ : ∃ n, n = m.length := ⟨_, rfl⟩
  rw [← hlen] at e1 hc1 hm ⊢
  subst e1
  obtain ⟨A2, n2, c2, rfl⟩ := rv_sl hu.1
  have b0 := alloc_below w (.cells #[] 26)
  have DC := hide (show ∀ W (x : Vx), Below w.heap.size w W → x ∈ m → Calls Tryz.prog 55 #[sv x.a, .slice A2 n2 c2] W (RxRet W (dt (tms x.d) (xf f)) P) from fun W x hb hx => by
    have hxn := hN x hx
    have hq : x.d.length * (5 * L + 1) ≤ N * (5 * L + 1) := Nat.mul_le_mul_right _ hxn
    refine (vdot_f ((hv.2 x hx).step hb) (hu.step hb) (by omega) h1 hL h2 hK hf (by omega)).mono fun e w' ⟨y, h1, h2, h3, h4⟩ => ⟨y, h1, h2, h3.more ?_, h4⟩
    rw [← hP]
    exact Nat.add_le_add_right (Nat.mul_le_mul_left _ (by omega)) _)
  have HV := hide hv
  have HN := hide hlen
  have PB := hide hPP
  have T0 := hide (show Fg (w.alloc (.cells #[] 26)) w.heap.size (.slice (some ⟨w.heap.size, 0, none⟩) 0 0) [] P from ⟨Ow.lit (B := w.heap.size) er_len w 26 ([] : List Rx) #[] rfl (Nat.le_refl _) (by simp [maxLen]), fun x hx => by cases hx⟩)
  have B0 := hide b0
  unfold maxLen at hc2
  clear hv hu hc3 hlen hN hG hP h1 hL h2 hK hf b0
  go_enter Tryz.func64, Tryz.ntmps64
  go_wp2_with fail
  go_loopw [5, 6] (fun ov iv wr => ∃ (k : Nat) (os : List Rx), k ≤ n ∧ iv = .int .i64 (k : Int) ∧ Hid (os.length = k) ∧ Hid (∀ (j : Nat) x, os[j]? = some x → x.r = dt (rwA m (j : Int)) (xf f)) ∧ Hid (Below w.heap.size w wr) ∧ Hid (Fg wr w.heap.size ov os P)) (fun _ iv _ => n - (intOf iv).toNat)
  case atStart => exact ⟨0, [], Nat.zero_le _, rfl, hide rfl, hide (fun j x h => by simp at h), B0, T0⟩
  case round =>
    obtain ⟨k, os, hk, rfl, KL, V, B, T⟩ := hrel
    by_cases hlt : k < n
    · obtain ⟨x, hx⟩ := len_of (d := m) (k := k) (by rw [← HN.out]; exact hlt)
      have XR := hide (rwA_in hx)
      have HLEN := hide (show os.length + 1 ≤ 1000000000000 by have := KL.out; omega)
      have CX := hide (DC.out wr x B.out (List.mem_of_getElem? hx))
      have l0 : (0 : Int) ≤ (k : Int) := by omega
      have l1 : (k : Int) < (n : Int) := by omega
      obtain ⟨b, off, rfl, hb, hcs⟩ := (HV.out.1.step B.out).get hx
      have c0 := hcs 0 _ rfl
      rw [Nat.add_zero, Nat.mul_one] at c0
      clear hx hcs hb
      go_wp2_with fail
      refine CX.out.mono ?_
      rintro e w3 ⟨y, rfl, hy, ry, bx⟩
      have T3 := hide (T.out.step bx)
      have B3 := hide (Below.step B.out B.out.size bx)
      have Y3 := hide ry
      have HY := hide hy
      clear hy ry bx T B CX c0
      go_wp2_with fail
      refine (rfto_g Y3.out (by have := PB.out; omega)).mono ?_
      rintro e w4 ⟨z, rfl, hz, rz, bx⟩
      have T4 := hide (T3.out.step bx)
      have Z4 := hide (rz.mono (B' := w.heap.size) B3.out.size)
      have B4 := hide (Below.step B3.out B3.out.size bx)
      have HZ := hide (show z.r = dt (rwA m (k : Int)) (xf f) by rw [hz, HY.out, XR.out])
      clear hz rz bx T3 B3 Y3
      go_wp2_with (at_builtin; go_must (refine wpList_pushE rfl (.tmp 14) (.tmp 22) 37 rfl Tryz.underlying37 hi hz0 hz1 hz2 rfl (by omega) er_len er_one w4 w.heap.size _ os z _ rfl T4.out.1 rfl rfl HLEN.out (by decide) B4.out.size ?_); intro v' w' ho hg; have TF := hide (T4.out.push ho hg.1 Z4.out); have CF := hide (below_own B4.out T4.out.1 hg.1 B4.out.size); clear ho hg)
      have K2 := hide (show (os ++ [z]).length = k + 1 by have := KL.out; simp; omega)
      have V2 := hide (show ∀ (j : Nat) x, (os ++ [z])[j]? = some x → x.r = dt (rwA m (j : Int)) (xf f) from fun j x hx => by
        by_cases hj : j < os.length
        · rw [List.getElem?_append_left hj] at hx
          exact V.out j x hx
        · rw [List.getElem?_append_right (by omega)] at hx
          have hj0 : j - os.length = 0 := by
            have := (List.getElem?_eq_some_iff.1 hx).1
            simp at this
            omega
          rw [hj0] at hx
          simp at hx
          subst hx
          rw [HZ.out, show j = k by have := KL.out; omega])
      exact ⟨⟨k + 1, os ++ [z], by omega, by go_num, K2, V2, CF, TF⟩, by simp [intOf]; omega⟩
    · obtain rfl : k = n := by omega
      go_wp2_with fail
      go_ret
      exact ⟨_, os, rfl, T.out, KL.out, V.out, B.out⟩
end Go.Proofs.YtieicmcbdhaipaaGreat

/-
  The document's own TimesT.
-/

namespace Go.Proofs.YtieicmcbdhaipaaGreat
open Go.RowKit Go.Proofs.YtieicmcbdhaipaaGreat.Num
set_option linter.unusedVariables false
set_option linter.unusedSimpArgs false
set_option maxRecDepth 100000

theorem fm_at {ts : List Tm} (h : Fm ts) {t : Tm} (ht : t ∈ ts) : gsum ts t.1 = t.2 ∧ 0 ≤ t.1 := by
  refine ⟨?_, (h.2 t ht).1⟩
  obtain ⟨pre, post, rfl⟩ := List.append_of_mem ht
  have hpw := List.pairwise_append.1 h.1
  have hpc := List.pairwise_cons.1 hpw.2.1
  rw [gsum_append, gsum_none (fun x hx => by have := hpw.2.2 x hx t (by simp); omega), Rat.zero_add]
  simp only [gsum]
  rw [gsum_none (fun x hx => by have := hpc.1 x hx; omega), Rat.add_zero]
  simp
theorem Tc.fitS {W : World} {v : Value} {d : List Tx} {L M : Nat} (h : Tc W v d L) (hf : Fm (tms d)) (hs : ∀ c, 0 ≤ c → Sz Q (gsum (tms d) c) M) : Tc W v d M :=
  ⟨h.1, fun x hx => (h.2 x hx).fit (by
    have hm : tm x ∈ tms d := List.mem_map.2 ⟨x, hx, rfl⟩
    obtain ⟨h1, h2⟩ := fm_at hf hm
    have h3 := hs (tm x).1 h2
    rw [h1] at h3
    exact h3)⟩
theorem Tg.fitS {W : World} {B : Nat} {v : Value} {d : List Tx} {L M : Nat} (h : Tg W B v d L) (hf : Fm (tms d)) (hs : ∀ c, 0 ≤ c → Sz Q (gsum (tms d) c) M) : Tg W B v d M :=
  ⟨h.1, fun x hx => (h.2 x hx).fit (by
    have hm : tm x ∈ tms d := List.mem_map.2 ⟨x, hx, rfl⟩
    obtain ⟨h1, h2⟩ := fm_at hf hm
    have h3 := hs (tm x).1 h2
    rw [h1] at h3
    exact h3)⟩
/-- The sum of the first k products. -/
def tt (m : List Vx) (f : List Rx) (k : Nat) (c : Int) : Rat := sm k (fun i => xf f (i : Int) * gsum (rwA m (i : Int)) c)
theorem sz_tt {m : List Vx} {f : List Rx} {K L N : Nat} (hK : 1 ≤ K) (hL : 1 ≤ L) (hf : ∀ i, Sz Q (xf f i) K) (hm : ∀ i, (∀ t ∈ rwA m i, Sz Q t.2 L) ∧ (rwA m i).length ≤ N) (c : Int) : ∀ k : Nat, Sz Q (tt m f k c) (k * (K + N * (L + 1) + 2) + 1) := by
  intro k
  induction k with
  | zero => exact sz_zero Q_two (by omega)
  | succ k ih =>
    have h1 := sz_gsum (B := Q) Q_two c (hm (k : Int)).1
    have h2 := h1.more Q_pos (show (rwA m (k : Int)).length * (L + 1) + 1 ≤ N * (L + 1) + 1 from Nat.succ_le_succ (Nat.mul_le_mul_right _ (hm (k : Int)).2))
    have h3 := sz_add Q_two ih (sz_mul (hf (k : Int)) h2)
    refine h3.more Q_pos ?_
    rw [Nat.add_mul k 1]
    omega

theorem sz_tt_of {w : World} {u v : Value} {f : List Rx} {m : List Vx} {L K N M : Nat} (hu : Fv w u f K) (hv : Mv w v m L) (hN : ∀ x ∈ m, x.d.length ≤ N) (h1 : 1 ≤ L) (h2 : 1 ≤ K) (hM : m.length * (K + N * (L + 1) + 2) + L + 1 ≤ M) (k : Nat) (hk : k ≤ m.length) (c : Int) : Sz Q (tt m f k c) M := by
  refine (sz_tt (K := K) (L := L) (N := N) h2 h1 (fun i => ?_) (fun i => ?_) c k).more Q_pos ?_
  · unfold xf
    split
    · split
      · rename_i x hx
        exact (hu.2 x (List.mem_of_getElem? hx)).sz h2
      · exact sz_zero Q_two h2
    · exact sz_zero Q_two h2
  · unfold rwA
    split
    · split
      · rename_i x hx
        have hm := List.mem_of_getElem? hx
        exact ⟨tsz (hv.2 x hm) h1, by rw [tms_len]; exact hN x hm⟩
      · exact ⟨fun t h => (by cases h), Nat.zero_le _⟩
    · exact ⟨fun t h => (by cases h), Nat.zero_le _⟩
  · have : k * (K + N * (L + 1) + 2) ≤ m.length * (K + N * (L + 1) + 2) := Nat.mul_le_mul_right _ hk
    omega

set_option maxHeartbeats 8000000 in
theorem rtimest_g {w : World} {u v : Value} {f : List Rx} {m : List Vx} {L K N M : Nat} (hu : Fv w u f K) (hv : Mv w v m L) (hN : ∀ x ∈ m, x.d.length ≤ N) (h1 : 1 ≤ L) (hL : L ≤ 1000) (h2 : 1 ≤ K) (hK : K ≤ 1000) (hmm : m.length ≤ 1000) (hff : f.length ≤ 1000) (hmn : m.length * N + N ≤ 1000)
    (hSZ : ∀ k, k ≤ m.length → ∀ c, Sz Q (tt m f k c) M) (hLM : L ≤ M) (h1M : 1 ≤ M) (hMM : M ≤ 10000) :
    Calls Tryz.prog 65 #[u, v] w fun e w' => ∃ v' l, e = .returned v' ∧ Tg w' w.heap.size v' l M ∧ Fm (tms l) ∧ (∀ c, 0 ≤ c → gsum (tms l) c = sm m.length (fun i => xf f (i : Int) * gsum (rwA m (i : Int)) c)) ∧ l.length ≤ m.length * N ∧ Below w.heap.size w w' := by
  obtain ⟨A, c, e1, hc1, hc2, hc3⟩ := id hv.1
  obtain ⟨n, hlen⟩ : ∃ n, n = m.length := ⟨_, rfl⟩
  obtain ⟨D, q, e2, hd1, hd2, hd3⟩ := id hu.1
  obtain ⟨p, hplen⟩ : ∃ p, p = f.length := ⟨_, rfl⟩
  rw [← hlen] at e1 hc1 hmm hSZ hmn ⊢
  rw [← hplen] at e2 hd1 hff
  subst e1 e2
  have SZ := hide hSZ
  have b0 := alloc_below w (.cells #[] 63)
  have HV := hide hv
  have HU := hide hu
  have HN := hide hlen
  have HP := hide hplen
  have NN := hide hN
  have PB := hide (And.intro h1 (And.intro hL (And.intro h2 hK)))
  have MB := hide (And.intro hLM (And.intro h1M hMM))
  have NB := hide hmn
  have T0 := hide (show Tg (w.alloc (.cells #[] 63)) w.heap.size (.slice (some ⟨w.heap.size, 0, none⟩) 0 0) [] M from ⟨Ow.lit (B := w.heap.size) et_len w 63 ([] : List Tx) #[] rfl (Nat.le_refl _) (by simp [maxLen]), fun x hx => by cases hx⟩)
  have B0 := hide b0
  have TAIL := hide (show ∀ k, k = n ∨ (k < n ∧ k = p) → ∀ c, tt m f k c = sm n (fun i => xf f (i : Int) * gsum (rwA m (i : Int)) c) from fun k hk c => by
    rcases hk with rfl | ⟨h, rfl⟩
    · rfl
    · exact (sm_ext (Nat.le_of_lt h) (fun i hi => by rw [xf_out f i (.inr (by rw [← hplen]; omega)), Rat.zero_mul])).symm)
  unfold maxLen at hc2 hd2
  clear hv hu hc3 hd3 hlen hplen hN h1 hL h2 hK hmn hSZ hLM h1M hMM b0
  go_enter Tryz.func65, Tryz.ntmps65
  go_wp2_with fail
  go_loopw [5, 6] (fun ov iv wr => ∃ (k : Nat) (os : List Tx), k ≤ n ∧ k ≤ p ∧ iv = .int .i64 (k : Int) ∧ Hid (Fm (tms os)) ∧ Hid (∀ c, 0 ≤ c → gsum (tms os) c = tt m f k c) ∧ Hid (os.length ≤ k * N) ∧ Hid (Below w.heap.size w wr) ∧ Hid (Tg wr w.heap.size ov os M)) (fun _ iv _ => n - (intOf iv).toNat)
  case atStart => exact ⟨0, [], Nat.zero_le _, Nat.zero_le _, rfl, hide Fm.nil, hide (fun c _ => rfl), hide (Nat.zero_le _), B0, T0⟩
  case round =>
    obtain ⟨k, os, hk, hkp, rfl, F, V, GL, B, T⟩ := hrel
    by_cases hlt : k < n
    · by_cases hltp : k < p
      · obtain ⟨x, hx⟩ := len_of (d := m) (k := k) (by rw [← HN.out]; exact hlt)
        obtain ⟨y, hy⟩ := len_of (d := f) (k := k) (by rw [← HP.out]; exact hltp)
        have hm := List.mem_of_getElem? hx
        have b8 := (Below.refl wr.heap.size wr).drew
        have B5 := hide (Below.step B.out B.out.size b8)
        have X5 := hide (((HV.out.2 x hm).step B5.out).more (M := M) MB.out.1)
        have Y5 := hide ((HU.out.2 y (List.mem_of_getElem? hy)).step B5.out)
        have T5 := hide (T.out.step b8)
        have XR := hide (rwA_in hx)
        have YR := hide (xf_in hy)
        have NX := hide (NN.out x hm)
        have GB := hide (show os.length ≤ n * N from Nat.le_trans GL.out (Nat.mul_le_mul_right _ (by omega)))
        obtain ⟨b, off, rfl, hb, hcs⟩ := (HV.out.1.step B5.out).get hx
        have c0 := hcs 0 _ rfl
        rw [Nat.add_zero, Nat.mul_one] at c0
        obtain ⟨b', off', rfl, hb', hcs'⟩ := (HU.out.1.step B5.out).get hy
        have e0 := hcs' 0 _ rfl
        have e1 := hcs' 1 _ rfl
        have e2 := hcs' 2 _ rfl
        rw [Nat.add_zero] at e0
        have l0 : (0 : Int) ≤ (k : Int) := by omega
        have l1 : (k : Int) < (n : Int) := by omega
        have l2 : (k : Int) < (p : Int) := by omega
        have P := hide (And.intro c0 (And.intro e0 (And.intro e1 e2)))
        clear hx hy hm hcs hb hcs' hb' b8 T B
        go_wp2_with fail
        go_region_held3 (fun W => W.cell? ⟨b, off + k, none⟩ = some (sv x.a) ∧ W.cell? ⟨b', off' + k * 3, none⟩ = some (.bool y.s) ∧ W.cell? ⟨b', off' + k * 3 + 1, none⟩ = some (sv y.u) ∧ W.cell? ⟨b', off' + k * 3 + 2, none⟩ = some (sv y.t))
          (exact P.out)
          (first
            | (go_at_call 50; refine Calls.mono (vaxpy_fl Y5.out X5.out T5.out.tv (by have := NX.out; have := GB.out; have := NB.out; omega) MB.out.2.1 MB.out.2.2 PB.out.2.2.1 PB.out.2.2.2) ?_; rintro e wx ⟨v9, d9, rfl, t9, f9, g9, n9, bx⟩; have F9 := hide f9; have V9 := hide (show ∀ c, 0 ≤ c → gsum (tms d9) c = tt m f (k + 1) c from fun c hc => by rw [g9 c hc, V.out c hc, ← XR.out, ← YR.out, Rat.add_comm]; rfl); have N9 := hide (show d9.length ≤ (k + 1) * N by rw [Nat.add_mul k 1]; have := GL.out; have := NX.out; omega); have T9 := hide ((t9.mono (B' := w.heap.size) B5.out.size).fitS f9 (fun c hc => by rw [V9.out c hc]; exact SZ.out _ (by omega) c)); have B9 := hide (Below.step B5.out B5.out.size bx); replace P := hide (And.intro (cell_keep P.out.1 bx) (And.intro (cell_keep P.out.2.1 bx) (And.intro (cell_keep P.out.2.2.1 bx) (cell_keep P.out.2.2.2 bx)))); clear t9 f9 g9 n9 bx))
        all_goals
          clear P c0 e0 e1 e2 X5 Y5 T5 B5
          go_wp2_with fail
          exact ⟨⟨k + 1, d9, by omega, by omega, by go_num, F9, V9, N9, B9, T9⟩, by simp [intOf]; omega⟩
      · have hkp2 : k = p := by omega
        have t1 : decide ((k : Int) < (n : Int)) = true := decide_eq_true (by omega)
        have t2 : decide ((k : Int) < (p : Int)) = false := decide_eq_false (by omega)
        have t3 : decide (k < p) = false := decide_eq_false (by omega)
        have V9 := hide (show ∀ c, 0 ≤ c → gsum (tms os) c = sm n (fun i => xf f (i : Int) * gsum (rwA m (i : Int)) c) from fun c hc => (V.out c hc).trans (TAIL.out k (.inr ⟨hlt, hkp2⟩) c))
        have GB := hide (show os.length ≤ n * N from Nat.le_trans GL.out (Nat.mul_le_mul_right _ (by omega)))
        clear hkp2 hltp
        go_wp2_with fail
        go_ret
        exact ⟨_, os, rfl, T.out, F.out, V9.out, GB.out, B.out⟩
    · obtain rfl : k = n := by omega
      have V9 := hide (show ∀ c, 0 ≤ c → gsum (tms os) c = sm k (fun i => xf f (i : Int) * gsum (rwA m (i : Int)) c) from fun c hc => (V.out c hc).trans (TAIL.out k (.inl rfl) c))
      go_wp2_with fail
      go_ret
      exact ⟨_, os, rfl, T.out, F.out, V9.out, GL.out, B.out⟩
theorem rtimest_f {w : World} {u v : Value} {f : List Rx} {m : List Vx} {L K N M : Nat} (hu : Fv w u f K) (hv : Mv w v m L) (hN : ∀ x ∈ m, x.d.length ≤ N) (h1 : 1 ≤ L) (hL : L ≤ 1000) (h2 : 1 ≤ K) (hK : K ≤ 1000) (hmm : m.length ≤ 1000) (hff : f.length ≤ 1000) (hmn : m.length * N + N ≤ 1000)
    (hM : m.length * (K + N * (L + 1) + 2) + L + 1 ≤ M) (hMM : M ≤ 10000) :
    Calls Tryz.prog 65 #[u, v] w fun e w' => ∃ v' l, e = .returned v' ∧ Tc w' v' l M ∧ Fm (tms l) ∧ (∀ c, 0 ≤ c → gsum (tms l) c = sm m.length (fun i => xf f (i : Int) * gsum (rwA m (i : Int)) c)) ∧ l.length ≤ m.length * N ∧ Below w.heap.size w w' :=
  (rtimest_g hu hv hN h1 hL h2 hK hmm hff hmn (sz_tt_of hu hv hN h1 h2 hM) (by omega) (by omega) hMM).mono fun e w' ⟨v', l, h, t, r⟩ => ⟨v', l, h, t.tc, r⟩
end Go.Proofs.YtieicmcbdhaipaaGreat
