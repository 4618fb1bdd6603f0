/-
  The document's own Scatter.
-/
import Derived.Test.YtajjpepjbflojaaGreatVsca

namespace Go.Proofs.YtajjpepjbflojaaGreat
open Go.RowKit Go.Proofs.YtajjpepjbflojaaGreat.Num
set_option linter.unusedVariables false
set_option linter.unusedSimpArgs false
set_option maxRecDepth 100000

set_option maxHeartbeats 8000000 in
theorem vscatter_f {w : World} {v : Value} {d : List Tx} {L : Nat} {n : Int} (hv : Tv w v d L) (hn : d.length ≤ 1000) (h1 : 1 ≤ L) (hL : L ≤ 10000) (hnn : n ≤ 300 ∨ 65536 < n) :
    Calls Tryz.prog 57 #[v, .int .i64 n] w fun e w' => Below w.heap.size w w' ∧
      ((ScBad (tms d) n ∧ ∃ v', e = .returned (.tuple #[v', .int .i64 2]) ∧ Fc w' v' [] 1) ∨
       (¬ ScBad (tms d) n ∧ ∃ v' l, e = .returned (.tuple #[v', .int .i64 0]) ∧ Fc w' v' l (d.length * (5 * L + 1) + 6) ∧ (l.length : Int) = n ∧ ∀ (j : Nat) x, l[j]? = some x → x.r = gsum (tms d) (j : Int))) := by
  obtain ⟨i0, hi, hz0, hz1, hz2⟩ := info_parts info_rt
  obtain ⟨A, m9, c, rfl⟩ := rv_sl hv.1
  have b0 := alloc_below w (.cells #[] 26)
  have MC := hide (vmake_f (hv.step b0) hn h1 (by omega))
  obtain ⟨G, hG⟩ : ∃ G, G = d.length * (5 * L + 1) + 6 := ⟨_, rfl⟩
  rw [← hG] at MC ⊢
  have GC := hide (show ∀ W (p : Nat), Below w.heap.size w W → Calls Tryz.prog 45 #[.slice A m9 c, .int .i64 (p : Int)] W (RxRet W (gsum (tms d) (p : Int)) G) from fun W p hb => by
    have h := vget_f (col := (p : Int)) (hv.step hb) hn h1 (by omega)
    rw [← hG, gt, if_pos (Int.natCast_nonneg p)] at h
    exact h)
  have GB := hide (show G ≤ 1000000000 by rw [hG]; have := Nat.mul_le_mul hn (show 5 * L + 1 ≤ 50001 by omega); omega)
  have O0 := hide (Ow.lit (B := w.heap.size) er_len w 26 ([] : List Rx) #[] rfl (Nat.le_refl _) (by simp [maxLen]))
  have B0 := hide b0
  clear hG hv b0
  go_enter Tryz.func57, Tryz.ntmps57
  go_wp2_with fail
  refine MC.out.mono ?_
  rintro e w1 ⟨v1, d1, rfl, t1, f1, g1, bx⟩
  obtain ⟨A1, m0, c1, rfl⟩ := rv_sl t1.1
  have T1 := hide t1
  have F1 := hide f1
  have G1 := hide g1
  have HM := hide (show m0 = d1.length by
    obtain ⟨A', c', e, _⟩ := t1.1
    injection e with e1 e2 e3)
  have MX := hide (show m0 ≤ 9223372036854775807 by
    obtain ⟨A', c', e, hc1, hc2, _⟩ := t1.1
    injection e with e1 e2 e3
    unfold maxLen at hc2
    omega)
  have B1 := hide (Below.step B0.out B0.out.size bx)
  have O1 := hide (O0.out.step bx)
  clear t1 f1 g1 bx MC B0 O0
  have NIL := hide (show ∀ W, Fc W (.slice (some ⟨w.heap.size, 0, none⟩) 0 0) [] 1 from fun W => ⟨⟨_, 0, rfl, by simp, by simp [maxLen], fun h => by simp at h⟩, fun x hx => by cases hx⟩)
  by_cases hneg : n < 0
  · have q1 : decide (n < 0) = true := decide_eq_true hneg
    have BAD := hide (show ScBad (tms d) n from .inl hneg)
    clear hneg hnn
    go_wp2_with fail
    go_ret2
    exact ⟨B1.out, .inl ⟨BAD.out, _, rfl, NIL.out _⟩⟩
  · by_cases hbig : 65536 < n
    · have q1 : decide (n < 0) = false := decide_eq_false hneg
      have q2 : decide (65536 < n) = true := decide_eq_true hbig
      have BAD := hide (show ScBad (tms d) n from .inr (.inl hbig))
      clear hneg hbig hnn
      go_wp2_with fail
      go_ret2
      exact ⟨B1.out, .inl ⟨BAD.out, _, rfl, NIL.out _⟩⟩
    · obtain ⟨p, rfl⟩ : ∃ p : Nat, n = (p : Int) := ⟨n.toNat, by omega⟩
      have hp : p ≤ 300 := by omega
      have q1 : decide ((p : Int) < 0) = false := decide_eq_false hneg
      have q2 : decide ((65536 : Int) < (p : Int)) = false := decide_eq_false hbig
      have q3 : decide (65536 < p) = false := decide_eq_false (by omega)
      have GP := hide (show ¬ (p : Int) < 0 ∧ ¬ (65536 : Int) < (p : Int) from ⟨hneg, hbig⟩)
      have hmx : m0 ≤ 9223372036854775807 := MX.out
      clear hneg hbig hnn
      go_wp2_with fail
      go_loopw [8] (fun iv wr => ∃ k : Nat, k ≤ m0 ∧ iv = .int .i64 (k : Int) ∧ Hid (Below w1.heap.size w1 wr) ∧ Hid (∀ (j : Nat) x, j < k → d1[j]? = some x → x.c < (p : Int))) (fun iv _ => m0 - (intOf iv).toNat)
      case atStart => exact ⟨0, Nat.zero_le _, rfl, hide (Below.refl _ _), hide (fun j x h => by omega)⟩
      case round =>
        obtain ⟨k, hk, rfl, D, NB⟩ := hrel
        by_cases hlt : k < m0
        · obtain ⟨x, hx⟩ := len_of (d := d1) (k := k) (by rw [← HM.out]; exact hlt)
          obtain ⟨b, off, rfl, hb, hcs⟩ := (T1.out.1.step D.out).get hx
          have z0 := hcs 0 _ rfl
          rw [Nat.add_zero] at z0
          have l2 : (0 : Int) ≤ (k : Int) := by omega
          have l3 : (k : Int) < (m0 : Int) := by omega
          have hmem : tm x ∈ tms d1 := List.mem_map.2 ⟨x, List.mem_of_getElem? hx, rfl⟩
          have BB := hide (Below.step B1.out B1.out.size D.out)
          by_cases hq : (p : Int) ≤ x.c
          · have t4 : decide ((p : Int) ≤ x.c) = true := decide_eq_true hq
            have BAD := hide (show ScBad (tms d) (p : Int) from .inr (.inr ⟨x.c, hq, by omega, by
              rw [← G1.out x.c (by omega)]
              obtain ⟨pre, post, he⟩ := List.append_of_mem hmem
              have hf := F1.out
              rw [he] at hf ⊢
              have hpw := List.pairwise_append.1 hf.1
              have hpc := List.pairwise_cons.1 hpw.2.1
              rw [gsum_append, gsum_none (fun t ht => by have := hpw.2.2 t ht (tm x) (by simp); have e : (tm x).1 = x.c := rfl; omega), Rat.zero_add]
              simp only [gsum]
              rw [gsum_none (fun t ht => by have := hpc.1 t ht; have e : (tm x).1 = x.c := rfl; omega), Rat.add_zero, if_pos (show (tm x).1 = x.c from rfl)]
              exact (hf.2 (tm x) (by simp)).2⟩))
            clear hq hx hcs hb hmem D NB
            go_wp2_with fail
            go_ret2
            exact ⟨BB.out, .inl ⟨BAD.out, _, rfl, NIL.out _⟩⟩
          · have t4 : decide ((p : Int) ≤ x.c) = false := decide_eq_false hq
            have NB2 := hide (show ∀ (j : Nat) y, j < k + 1 → d1[j]? = some y → y.c < (p : Int) from fun j y hj hy => by
              by_cases e : j = k
              · subst e
                rw [hx] at hy
                injection hy with hy
                subst hy
                omega
              · exact NB.out j y (by omega) hy)
            clear hq hx hcs hb hmem NB
            go_wp2_with fail
            exact ⟨⟨k + 1, by omega, by go_num, D, NB2⟩, by simp [intOf]; omega⟩
        · obtain rfl : k = m0 := by omega
          have GOOD := hide (show ¬ ScBad (tms d) (p : Int) from by
            rintro (h | h | ⟨c, h, h0, hc⟩)
            · have := GP.out.1; omega
            · have := GP.out.2; omega
            · rw [← G1.out c h0] at hc
              exact hc (gsum_none (fun t ht => by
                obtain ⟨x, hx, rfl⟩ := List.mem_map.1 ht
                obtain ⟨j, hj, rfl⟩ := List.mem_iff_getElem.1 hx
                have := NB.out j _ (by rw [HM.out]; exact hj) (List.getElem?_eq_getElem hj)
                show (d1[j]).c ≠ c
                omega)))
          have B2 := hide (Below.step B1.out B1.out.size D.out)
          have T2 := hide (show Fg wr w.heap.size (.slice (some ⟨w.heap.size, 0, none⟩) 0 0) [] G from ⟨O1.out.step D.out, fun x hx => by cases hx⟩)
          clear NB D O1
          go_wp2_with fail
          obtain ⟨wo, hwo⟩ : ∃ wo, wo = wr := ⟨_, rfl⟩
          subst hwo
          go_loopw [6, 9] (fun ov iv wr => ∃ (q : Nat) (os : List Rx), q ≤ p ∧ iv = .int .i64 (q : Int) ∧ Hid (os.length = q) ∧ Hid (∀ (j : Nat) x, os[j]? = some x → x.r = gsum (tms d) (j : Int)) ∧ Hid (Below w.heap.size w wr) ∧ Hid (Fg wr w.heap.size ov os G)) (fun _ iv _ => p - (intOf iv).toNat)
          case atStart => exact ⟨0, [], Nat.zero_le _, rfl, hide rfl, hide (fun j x h => by simp at h), B2, T2⟩
          case round =>
            obtain ⟨q, os, hq, rfl, QL, V, B, T⟩ := hrel
            by_cases hlt2 : q < p
            · have HLEN := hide (show os.length + 1 ≤ 1000000000000 by rw [QL.out]; omega)
              have l2 : (q : Int) < (p : Int) := by omega
              go_wp2_with fail
              refine (GC.out wr q B.out).mono ?_
              rintro e w3 ⟨y, rfl, hy, ry, bx⟩
              have T3 := hide (T.out.step bx)
              have B3 := hide (Below.step B.out B.out.size bx)
              have Y3 := hide ry
              have HY := hide hy
              clear hy ry bx T B
              go_wp2_with fail
              refine (rfto_g Y3.out (by have := GB.out; omega)).mono ?_
              rintro e w4 ⟨z, rfl, hz, rz, bx⟩
              have T4 := hide (T3.out.step bx)
              have Z4 := hide (rz.mono (B' := w.heap.size) B3.out.size)
              have B4 := hide (Below.step B3.out B3.out.size bx)
              have HZ := hide (show z.r = gsum (tms d) (q : Int) by rw [hz, HY.out])
              clear hz rz bx T3 B3 Y3
              go_wp2_with (at_builtin; go_must (refine wpList_pushE rfl (.tmp 39) (.tmp 44) 37 rfl Tryz.underlying37 hi hz0 hz1 hz2 rfl (by omega) er_len er_one w4 w.heap.size _ os z _ rfl T4.out.1 rfl rfl HLEN.out (by decide) B4.out.size ?_); intro v' w' ho hg; have TF := hide (T4.out.push ho hg.1 Z4.out); have CF := hide (below_own B4.out T4.out.1 hg.1 B4.out.size); clear ho hg)
              have QL2 := hide (show (os ++ [z]).length = q + 1 by have := QL.out; simp; omega)
              have V2 := hide (show ∀ (j : Nat) x, (os ++ [z])[j]? = some x → x.r = gsum (tms d) (j : Int) from fun j x hx => by
                by_cases hj : j < os.length
                · rw [List.getElem?_append_left hj] at hx
                  exact V.out j x hx
                · rw [List.getElem?_append_right (by omega)] at hx
                  have hj0 : j - os.length = 0 := by
                    have := (List.getElem?_eq_some_iff.1 hx).1
                    simp at this
                    omega
                  rw [hj0] at hx
                  simp at hx
                  subst hx
                  rw [HZ.out, show j = q by have := QL.out; omega])
              exact ⟨⟨q + 1, os ++ [z], by omega, by go_num, QL2, V2, CF, TF⟩, by simp [intOf]; omega⟩
            · obtain rfl : q = p := by omega
              go_wp2_with fail
              go_ret2
              exact ⟨B.out, .inr ⟨GOOD.out, _, os, rfl, T.out.fc, by rw [QL.out], V.out⟩⟩
end Go.Proofs.YtajjpepjbflojaaGreat
