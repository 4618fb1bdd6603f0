/-
  The walk of VecDots: true.
-/
import Derived.Test.YtajjpepjbflojaaGreatVecFormsW
import Derived.Test.YtajjpepjbflojaaGreatVdot
import Derived.Test.YtajjpepjbflojaaGreatVgat


namespace Go.Proofs.YtajjpepjbflojaaGreat
open Go.RowKit Go.Proofs.YtajjpepjbflojaaGreat.Num
set_option linter.unusedVariables false
set_option linter.unusedSimpArgs false
set_option maxRecDepth 100000

/-- All places of a list, those of 0 too. -/
def gal (f : Int → Rat) : Nat → List Tm
  | 0 => []
  | k + 1 => gal f k ++ [((k : Int), f (k : Int))]
theorem gal_sum (f : Int → Rat) (k : Nat) (c : Int) : gsum (gal f k) c = if 0 ≤ c ∧ c < (k : Int) then f c else 0 := by
  induction k with
  | zero =>
    rw [if_neg (by omega)]
    rfl
  | succ k ih =>
    rw [gal, gsum_append, ih]
    by_cases hc : c = (k : Int)
    · subst hc
      have ha : (if 0 ≤ (k : Int) ∧ (k : Int) < (k : Int) then f (k : Int) else 0) = 0 := if_neg (by omega)
      have hb : (if 0 ≤ (k : Int) ∧ (k : Int) < ((k + 1 : Nat) : Int) then f (k : Int) else 0) = f (k : Int) := if_pos (by omega)
      rw [ha, hb, Rat.zero_add]
      simp [gsum, Rat.add_zero]
    · have h1 : gsum [((k : Int), f (k : Int))] c = 0 := by
        simp only [gsum]
        rw [if_neg (fun e => hc e.symm), Rat.add_zero]
      rw [h1, Rat.add_zero]
      by_cases h : 0 ≤ c ∧ c < (k : Int)
      · rw [if_pos h, if_pos (by omega)]
      · rw [if_neg h, if_neg (by omega)]

set_option maxHeartbeats 16000000 in
theorem vdots_go (w : World) (v : Value) (d : List Tx) (u : Value) (f : List Rx) (hv : Tv w v d 17592186043904) (hu : Fv w u f 17592186043904) :
    Calls Tryz.prog 6 #[v, u] w fun e w' => e = .returned (.bool true) ∧ Below w.heap.size w w' := by
  obtain ⟨A1, n1, c1, rfl⟩ := rv_sl hv.1
  obtain ⟨i0, hi, hz0, hz1, hz2⟩ := info_parts info_tm
  obtain ⟨A2, cc, e2, hc1, hc2, hc3⟩ := id hu.1
  obtain ⟨n, hlen⟩ : ∃ n, n = f.length := ⟨_, rfl⟩
  rw [← hlen] at e2 hc1
  subst e2
  have V := hide hv
  have U := hide hu
  have HN := hide hlen
  unfold maxLen at hc2
  clear hv hu hc3 hlen
  go_enter Tryz.func6, Tryz.ntmps6
  go_wp2_with fail
  refine (vspeaks_true w).mono ?_
  rintro e w2 ⟨rfl, bx⟩
  replace V := hide (V.out.step bx)
  replace U := hide (U.out.step bx)
  have B := hide bx
  clear bx
  go_wp2_with fail
  refine (great_c V.out (by omega)).mono ?_
  rintro e w3 ⟨bx, p, rfl, hp⟩
  replace V := hide (V.out.step bx)
  replace U := hide (U.out.step bx)
  replace B := hide (Below.step B.out B.out.size bx)
  have HP := hide hp
  clear bx hp
  cases p with
  | true =>
    go_wp2_with fail
    go_ret
    exact ⟨rfl, B.out⟩
  | false =>
    obtain ⟨dl, dw⟩ := HP.out rfl
    replace V := hide (V.out.tight dw)
    have DL := hide dl
    clear dl dw HP
    go_wp2_with fail
    refine (greatall_c U.out (by omega)).mono ?_
    rintro e w4 ⟨bx, p, rfl, hp⟩
    replace V := hide (V.out.step bx)
    replace U := hide (U.out.step bx)
    replace B := hide (Below.step B.out B.out.size bx)
    have HP := hide hp
    clear bx hp
    cases p with
    | true =>
      go_wp2_with fail
      go_ret
      exact ⟨rfl, B.out⟩
    | false =>
      obtain ⟨dl, dw⟩ := HP.out rfl
      replace U := hide (U.out.tight dw)
      have FL := hide dl
      have hn9 : n ≤ 30 := by rw [HN.out]; exact dl
      obtain ⟨zv, hzv⟩ := tl_of V.out
      obtain ⟨zu, hzu⟩ := fl_of U.out
      have TV := hide hzv
      have FU := hide hzu
      clear dl dw HP hzv hzu V U
      go_wp2_with fail
      refine (copy_v TV.out (by omega) (by have := DL.out; omega)).mono ?_
      rintro e w5 ⟨v5, d5, rfl, t5, bx⟩
      obtain ⟨A5, n5, c5, rfl⟩ := rv_sl t5.tl.1
      replace TV := hide (TV.out.step bx)
      replace FU := hide (FU.out.step bx)
      replace B := hide (Below.step B.out B.out.size bx)
      have TX := hide t5.tl
      clear t5 bx
      go_wp2_with fail
      refine (copyall_v FU.out (by omega) (by have := FL.out; omega)).mono ?_
      rintro e wm ⟨v6, d6, rfl, t6, bx⟩
      obtain ⟨A6, n6, c6, rfl⟩ := rv_sl t6.fl.1
      replace TV := hide (TV.out.step bx)
      replace FU := hide (FU.out.step bx)
      replace TX := hide (TX.out.step bx)
      replace B := hide (Below.step B.out B.out.size bx)
      have FX := hide t6.fl
      have MX := hide (TX.out.tms TV.out)
      have MF := hide (FX.out.xf FU.out)
      have NX := hide (show d5.length ≤ 30 by have := DL.out; have := TX.out.2.1; have := TV.out.2.1; omega)
      have NF := hide (show d6.length ≤ 30 by have := FL.out; have := FX.out.2.1; have := FU.out.2.1; omega)
      clear t6 bx
      go_wp2_with fail
      refine (dot_g TX.out.tv FX.out.fv (by have := NX.out; omega) (by omega) (by omega) (by omega) (by omega)).mono ?_
      rintro e w7 ⟨x7, rfl, h7, r7, bx⟩
      have C := hide bx
      have X7 := hide r7
      have H7 := hide (show x7.r = dt (tms d) (xf f) by rw [h7, MX.out, MF.out])
      clear h7 r7 bx
      go_wp2_with fail
      refine (gather_g (FX.out.step C.out).fv (by have := NF.out; omega) (by omega) (by omega)).mono ?_
      rintro e w8 ⟨v8, d8, rfl, t8, f8, g8, n8, bx⟩
      obtain ⟨A8, n8', c8, rfl⟩ := rv_sl t8.tv.1
      have by_ := bx.trans ((alloc_below w8 (rbox x7.s (sv x7.u) (sv x7.t))).mono bx.size)
      have T8 := hide ((t8.mono (B' := wm.heap.size) C.out.size).step (alloc_below w8 (rbox x7.s (sv x7.u) (sv x7.t))))
      have F8 := hide f8
      have G8 := hide (show ∀ c, 0 ≤ c → gsum (tms d8) c = xf f c by rw [← MF.out]; exact g8)
      have N8 := hide (show d8.length ≤ 30 by have := NF.out; omega)
      replace X7 := hide (X7.out.step by_)
      replace C := hide (Below.step C.out C.out.size by_)
      have Q8 := hide (Bq.new w8 x7.s (sv x7.u) (sv x7.t))
      clear t8 f8 g8 n8 bx by_
      go_wp2_with fail
      have HS := hide (show (w8.alloc (rbox x7.s (sv x7.u) (sv x7.t))).heap.size = w8.heap.size + 1 by simp)
      generalize (w8.alloc (rbox x7.s (sv x7.u) (sv x7.t))) = w9 at *
      generalize w8.heap.size = g7 at *
      have U9 := hide ((FU.out.step C.out).fv)
      have O9 := hide (show Ow 63 et 4 (w9.alloc (.cells #[] 63)) w9.heap.size (.slice (some ⟨g7 + 1, 0, none⟩) 0 0) [] from by
        have h : Ow 63 et 4 (w9.alloc (.cells #[] 63)) w9.heap.size (.slice (some ⟨w9.heap.size, 0, none⟩) 0 0) [] := Ow.lit (B := w9.heap.size) et_len w9 63 ([] : List Tx) #[] rfl (Nat.le_refl _) (by simp [maxLen])
        have e : Value.slice (some ⟨w9.heap.size, 0, none⟩) 0 0 = Value.slice (some ⟨g7 + 1, 0, none⟩) 0 0 := by rw [HS.out]
        rw [e] at h
        exact h)
      have D9 := hide (alloc_below w9 (.cells #[] 63))
      go_loopw [9, 31] (fun ov iv wr => ∃ (k : Nat) (os : List Tx), k ≤ n ∧ iv = .int .i64 (k : Int) ∧ Hid (tms os = gal (xf f) k) ∧ Hid (os.length = k) ∧ Hid (Below w9.heap.size w9 wr) ∧ Hid (Ow 63 et 4 wr w9.heap.size ov os) ∧ Hid (∀ y ∈ os, Ra w9 (rx y.x) y.x.r 6)) (fun _ iv _ => n - (intOf iv).toNat)
      case atStart => exact ⟨0, [], Nat.zero_le _, rfl, hide rfl, hide rfl, D9, O9, hide (fun y hy => by cases hy)⟩
      case round =>
        obtain ⟨k, os, hk, rfl, E, GL, D, O, R⟩ := hrel
        by_cases hlt : k < n
        · obtain ⟨x, hx⟩ := len_of (d := f) (k := k) (by rw [← HN.out]; exact hlt)
          have HC := hide (show ∀ W, Below w9.heap.size w9 W → E3 W A2 (k * 3) x from fun W h => E3.of (U9.out.1.step h) hx)
          have XF := hide (xf_in hx)
          have RX := hide (U9.out.2 x (fl_mem hx))
          have HLEN := hide (show os.length + 1 ≤ 1000000000000 by have := GL.out; omega)
          have l0 : (0 : Int) ≤ (k : Int) := by omega
          have l1 : (k : Int) < (n : Int) := by omega
          obtain ⟨b, off, rfl, -⟩ := HC.out w9 (Below.refl _ _)
          obtain ⟨c0, c1, c2⟩ := (HC.out _ D.out).cells
          clear hx
          go_wp2_with (at_builtin; go_must (refine wpList_pushE rfl (.tmp 34) (.tmp 41) 47 rfl Tryz.underlying47 hi hz0 hz1 hz2 rfl (by omega) et_len et_one wr w9.heap.size _ os ⟨(k : Int), x⟩ _ rfl O.out rfl rfl HLEN.out (by decide) D.out.size ?_); intro v' w' ho hg; have OF := hide ho; have DF := hide (below_own D.out O.out hg.1 D.out.size); clear ho hg)
          have E2 := hide (show tms (os ++ [⟨(k : Int), x⟩]) = gal (xf f) (k + 1) by rw [gal, XF.out, tms_append, E.out]; rfl)
          have K2 := hide (show (os ++ [(⟨(k : Int), x⟩ : Tx)]).length = k + 1 by have := GL.out; simp; omega)
          have R2 := hide (show ∀ y ∈ os ++ [(⟨(k : Int), x⟩ : Tx)], Ra w9 (rx y.x) y.x.r 6 from fun y hy => by
            rcases List.mem_append.1 hy with hy | hy
            · exact R.out y hy
            · simp at hy; subst hy; exact RX.out)
          exact ⟨⟨k + 1, os ++ [⟨(k : Int), x⟩], by omega, by go_num, E2, K2, DF, OF, R2⟩, by simp [intOf]; omega⟩
        · obtain rfl : k = n := by omega
          have b8 := (Below.refl wr.heap.size wr).drew
          replace D := hide (Below.step D.out D.out.size b8)
          have TT := hide (show Tv wr.drew _ os 6 from ⟨(O.out.step b8).rl et_len, fun x hx => (R.out x hx).step D.out⟩)
          have GT := hide (show ∀ c, 0 ≤ c → gsum (tms os) c = xf f c from fun c hc => by
            rw [E.out, gal_sum]
            by_cases h : c < (k : Int)
            · rw [if_pos ⟨hc, h⟩]
            · rw [if_neg (fun e => h e.2), xf_out f c (.inr (by rw [← HN.out]; omega))])
          have NT := hide (show os.length ≤ 30 by have := GL.out; omega)
          replace T8 := hide (T8.out.step D.out)
          replace X7 := hide (X7.out.step D.out)
          replace Q8 := hide (Q8.out.step D.out)
          replace C := hide (Below.step C.out C.out.size D.out)
          have V8 := hide ((TV.out.step C.out).tv)
          have U8 := hide ((FU.out.step C.out).fv)
          obtain ⟨A10, n10, c10, rfl⟩ := rv_sl TT.out.1
          clear E O R D b8 U9
          go_wp2_with fail
          go_region_held3 (fun W => W.cell? ⟨g7, 0, none⟩ = some (.bool x7.s) ∧ W.cell? ⟨g7, 1, none⟩ = some (sv x7.u) ∧ W.cell? ⟨g7, 2, none⟩ = some (sv x7.t))
            (exact bq3 Q8.out)
            (first
              | (go_at_call 55; refine Calls.mono (vdot_f V8.out U8.out (by have := DL.out; omega) (by omega) (by omega) (by omega) (by omega) (by have := FL.out; omega) (by have := DL.out; omega)) ?_; rintro e wx ⟨x9, rfl, h9, r9, bx⟩; have R9 := hide r9; have H9 := hide h9; replace TT := hide (TT.out.step bx); replace T8 := hide (T8.out.step bx); replace X7 := hide (X7.out.step bx); replace Q8 := hide (Q8.out.step bx); replace C := hide (Below.step C.out C.out.size bx); clear r9 h9 bx V8 U8)
              | (go_at_call 26; refine Calls.mono (rfto_f R9.out (by have := Nat.mul_le_mul FL.out (show d.length * (5 * 6 + 1) + 6 + 5 * 6 + 1 ≤ 1000 by have := DL.out; omega); omega)) ?_; rintro e wx ⟨y9, rfl, k9, s9, bx⟩; have Y9 := hide (show Rc wx (rx y9) x7.r _ by rw [H7.out, ← H9.out, ← k9]; exact s9); replace TT := hide (TT.out.step bx); replace T8 := hide (T8.out.step bx); replace X7 := hide (X7.out.step bx); replace Q8 := hide (Q8.out.step bx); replace C := hide (Below.step C.out C.out.size bx); clear s9 k9 bx)
              | (go_at_call 37; refine Calls.mono (rsame_c X7.out.1 Y9.out) ?_; rintro e wx ⟨rfl, bx⟩; replace TT := hide (TT.out.step bx); replace T8 := hide (T8.out.step bx); replace Q8 := hide (Q8.out.step bx); replace C := hide (Below.step C.out C.out.size bx); clear bx)
              | (go_at_call 44; refine Calls.mono (vmake_f TT.out (by have := NT.out; omega) (by omega) (by omega)) ?_; rintro e wx ⟨v9, d9, rfl, t9, f9, g9, bx⟩; have T9 := hide t9; have E9 := hide (Fm.unique F8.out f9 (fun c hc => (G8.out c hc).trans ((g9 c hc).trans (GT.out c hc)).symm)); replace T8 := hide (T8.out.step bx); replace Q8 := hide (Q8.out.step bx); replace C := hide (Below.step C.out C.out.size bx); clear t9 f9 g9 bx)
              | (go_at_call 43; refine Calls.mono (same_t T8.out.tc T9.out E9.out) ?_; rintro e wx ⟨rfl, bx⟩; replace T8 := hide (T8.out.step bx); replace Q8 := hide (Q8.out.step bx); replace C := hide (Below.step C.out C.out.size bx); clear bx))
          all_goals
            generalize wx = w10 at *
            clear Q8
            go_wp2_with fail
            refine (spoil_v (T8.out.sp (by omega)) C.out.size (by have := N8.out; omega)).mono ?_
            rintro e w11 ⟨rfl, sp⟩
            replace C := hide (C.out.trans sp.1)
            clear sp T8
            go_wp2_with fail
            refine (same_v (TX.out.step C.out) (TV.out.step C.out)).mono ?_
            rintro e w12 ⟨rfl, bx⟩
            replace C := hide (Below.step C.out C.out.size bx)
            clear bx
            go_wp2_with fail
            refine (sameall_v (FX.out.step C.out) (FU.out.step C.out)).mono ?_
            rintro e w13 ⟨rfl, bx⟩
            replace C := hide (Below.step C.out C.out.size bx)
            clear bx
            go_wp2_with fail
            go_ret
            exact ⟨rfl, Below.step B.out B.out.size C.out⟩
end Go.Proofs.YtajjpepjbflojaaGreat
