/-
  The walk of VecScatters: true.
-/
import Derived.Test.YtajjpepjbflojaaGreatVecFormsW
import Derived.Test.YtajjpepjbflojaaGreatVscr
import Derived.Test.YtajjpepjbflojaaGreatSpu


namespace Go.Proofs.YtajjpepjbflojaaGreat
open Go.RowKit Go.Proofs.YtajjpepjbflojaaGreat.Num
set_option linter.unusedVariables false
set_option linter.unusedSimpArgs false
set_option maxRecDepth 100000

set_option maxHeartbeats 16000000 in
theorem vscat_go (w : World) (v : Value) (d : List Tx) (n : Int) (hv : Tv w v d 17592186043904) (hw : (Lit.int .i64 n).wf = true) :
    Calls Tryz.prog 7 #[v, .int .i64 n] w fun e w' => e = .returned (.bool true) ∧ Below w.heap.size w w' := by
  obtain ⟨A1, n1, c1, rfl⟩ := rv_sl hv.1
  have V := hide hv
  clear hv hw
  go_enter Tryz.func7, Tryz.ntmps7
  go_wp2_with fail
  refine (vspeaks_true w).mono ?_
  rintro e w2 ⟨rfl, bx⟩
  replace V := hide (V.out.step bx)
  have B := hide bx
  clear bx
  go_wp2_with fail
  refine (great_c V.out (by omega)).mono ?_
  rintro e w3 ⟨bx, p, rfl, hp⟩
  replace V := hide (V.out.step bx)
  replace B := hide (Below.step B.out B.out.size bx)
  have HP := hide hp
  clear bx hp
  cases p with
  | true =>
    go_wp2_with fail
    go_ret
    exact ⟨rfl, B.out⟩
  | false =>
    obtain ⟨dl, dw⟩ := HP.out rfl
    replace V := hide (V.out.tight dw)
    have DL := hide dl
    obtain ⟨zs, tl⟩ := tl_of V.out
    have TL := hide tl
    clear dl dw HP tl V
    by_cases ha : n ≤ 300
    · have t1 : decide (300 < n) = false := decide_eq_false (by omega)
      have HNN := hide (show n ≤ 300 ∨ 65536 < n from .inl ha)
      clear ha
      go_wp2_with fail
      refine (copy_v TL.out (by omega) (by have := DL.out; omega)).mono ?_
      rintro e w4 ⟨v4, d4, rfl, t4, bx⟩
      obtain ⟨A4, n4, c4, rfl⟩ := rv_sl t4.tl.1
      replace TL := hide (TL.out.step bx)
      replace B := hide (Below.step B.out B.out.size bx)
      have T4 := hide t4.tl
      have M4 := hide (t4.tl.tms TL.out)
      have N4 := hide (show d4.length ≤ 30 by have := DL.out; have := t4.2.1; have := TL.out.2.1; omega)
      clear bx t4
      go_wp2_with fail
      refine (scatter_g (n := n) T4.out.tv (by have := N4.out; omega) (by omega) (by omega)).mono ?_
      rintro e w5 ⟨bx, hs⟩
      have D := hide bx
      rw [M4.out] at hs
      clear bx
      rcases hs with ⟨bad, rfl⟩ | ⟨good, v5, l5, rfl, fg, hlen, val⟩
      · have BAD := hide bad
        clear bad
        go_wp2_with fail
        refine (vscatter_f (n := n) (TL.out.step D.out).tv (by have := DL.out; omega) (by omega) (by omega) HNN.out).mono ?_
        rintro e w6 ⟨bx, hs⟩
        replace D := hide (Below.step D.out D.out.size bx)
        clear bx
        rcases hs with ⟨-, v6, rfl, nil⟩ | ⟨good, -⟩
        · have NIL := hide nil
          obtain ⟨A6, n6, c6, rfl⟩ := rv_sl nil.1
          clear nil
          go_wp2_with fail
          refine (sameall_t (d := []) (f := []) (L := 1) (M := 1) ⟨Lr.nil er 3 _, fun x hx => by cases hx⟩ NIL.out rfl).mono ?_
          rintro e w7 ⟨rfl, bx⟩
          replace D := hide (Below.step D.out D.out.size bx)
          clear bx NIL
          go_wp2_with fail
          go_ret
          exact ⟨rfl, Below.step B.out B.out.size D.out⟩
        · exact absurd BAD.out good
      · have GOOD := hide good
        have FG := hide fg
        have HL := hide hlen
        have VAL := hide val
        have N5 := hide (show l5.length ≤ 300 by
          rcases HNN.out with h | h
          · omega
          · exact absurd (show ScBad (tms d) n from .inr (.inl h)) good)
        obtain ⟨A5, n5, c5, rfl⟩ := rv_sl fg.fv.1
        have HN5 := hide (show n5 = l5.length by
          obtain ⟨A', c', e, _⟩ := fg.fv.1
          injection e with e1 e2 e3)
        have hn59 : n5 ≤ 300 := by rw [HN5.out]; exact N5.out
        have L5 := hide (show d4.length * (6 + 1) + 1 ≤ 1000 by have := N4.out; omega)
        have U5 := hide (show ∀ x ∈ l5, (0 < x.u.2.1 → ∀ b off, x.u.1 = some ⟨b, off, none⟩ → b < w5.heap.size) ∧ (0 < x.t.2.1 → ∀ b off, x.t.1 = some ⟨b, off, none⟩ → b < w5.heap.size) from fun x hx => ⟨(fg.2 x hx).2.1.lt, (fg.2 x hx).2.2.lt⟩)
        have E5 := hide D.out.size
        clear good fg hlen val
        go_wp2_with fail
        refine (vscatter_f (n := n) (TL.out.step D.out).tv (by have := DL.out; omega) (by omega) (by omega) HNN.out).mono ?_
        rintro e w6 ⟨bx, hs⟩
        replace D := hide (Below.step D.out D.out.size bx)
        have SZ := hide bx.size
        replace FG := hide (FG.out.step bx)
        clear bx
        rcases hs with ⟨bad, -⟩ | ⟨-, v6, l6, rfl, fc, hlen6, val6⟩
        · exact absurd bad GOOD.out
        · have FC := hide fc
          have EQ := hide (show l5.map Rx.r = l6.map Rx.r from by
            apply List.ext_getElem?
            intro j
            rw [List.getElem?_map, List.getElem?_map]
            by_cases hj : j < l5.length
            · obtain ⟨x, hx⟩ := len_of hj
              obtain ⟨y, hy⟩ := len_of (d := l6) (k := j) (by have := HL.out; omega)
              rw [hx, hy]
              simp only [Option.map_some, VAL.out j x hx, val6 j y hy]
            · rw [List.getElem?_eq_none (by omega), List.getElem?_eq_none (by have := HL.out; omega)])
          obtain ⟨A6, n6, c6, rfl⟩ := rv_sl fc.1
          clear fc hlen6 val6
          go_wp2_with fail
          refine (sameall_t FG.out.fc FC.out EQ.out).mono ?_
          rintro e w7 ⟨rfl, bx⟩
          replace D := hide (Below.step D.out D.out.size bx)
          replace SZ := hide (Nat.le_trans SZ.out bx.size)
          replace FG := hide (FG.out.step bx)
          clear bx FC EQ
          go_wp2_with fail
          refine (gather_g FG.out.fv (by have := N5.out; omega) (by omega) (by have := L5.out; omega)).mono ?_
          rintro e w8 ⟨v8, d8, rfl, t8, f8, g8, n8, bx⟩
          obtain ⟨A8, n8', c8, rfl⟩ := rv_sl t8.tv.1
          have T8 := hide t8
          have F8 := hide f8
          have G8 := hide (show ∀ c, 0 ≤ c → gsum (tms d8) c = gsum (tms d) c from fun c hc => by
            rw [g8 c hc]
            by_cases h : c < n
            · obtain ⟨x, hx⟩ := len_of (d := l5) (k := c.toNat) (by have := HL.out; omega)
              have h1 := xf_in hx
              rw [Int.toNat_of_nonneg hc] at h1
              have h2 := VAL.out _ x hx
              rw [Int.toNat_of_nonneg hc] at h2
              rw [h1, h2]
            · rw [xf_out l5 c (.inr (by have := HL.out; omega))]
              rcases Classical.em (gsum (tms d) c = 0) with h0 | h0
              · exact h0.symm
              · exact absurd (show ScBad (tms d) n from .inr (.inr ⟨c, by omega, hc, h0⟩)) GOOD.out)
          replace D := hide (Below.step D.out D.out.size bx)
          replace SZ := hide (show w5.heap.size ≤ w7.heap.size from SZ.out)
          replace FG := hide (FG.out.step bx)
          clear t8 f8 g8 n8 bx
          go_wp2_with fail
          go_loopw [53] (fun iv wr => ∃ k : Nat, k ≤ n5 ∧ iv = .int .i64 (k : Int) ∧ Hid (Spu w4.heap.size w7.heap.size w8 wr)) (fun iv _ => n5 - (intOf iv).toNat)
          case atStart => exact ⟨0, Nat.zero_le _, rfl, hide (Spu.refl _ _ _)⟩
          case round =>
            obtain ⟨k, hk, rfl, S⟩ := hrel
            by_cases hlt : k < n5
            · obtain ⟨x, hx⟩ := len_of (d := l5) (k := k) (by rw [← HN5.out]; exact hlt)
              have OW := hide (S.out.1.ow (by decide) FG.out.1)
              have E := E3.of (OW.out.rl er_len) hx
              obtain ⟨b, off, rfl, c0, c1, c2⟩ := E
              have hm := fl_mem' hx
              have X9 := FG.out.2 x hm
              have UW := hide (S.out.1.wr X9.2.1)
              have TW := hide (S.out.1.wr X9.2.2)
              have NW := hide X9.1.n_le
              have U9 := U5.out x hm
              have UU := hide (show 0 < x.u.2.1 → ∀ b off, x.u.1 = some ⟨b, off, none⟩ → b < w7.heap.size from fun h b o e => Nat.lt_of_lt_of_le (U9.1 h b o e) SZ.out)
              have UT := hide (show 0 < x.t.2.1 → ∀ b off, x.t.1 = some ⟨b, off, none⟩ → b < w7.heap.size from fun h b o e => Nat.lt_of_lt_of_le (U9.2 h b o e) SZ.out)
              have S0 := hide (Nat.le_trans D.out.size S.out.1.2.1)
              have l0 : (0 : Int) ≤ (k : Int) := by omega
              have l1 : (k : Int) < (n5 : Int) := by omega
              clear hx X9 hm U9 OW
              go_wp2_with fail
              refine (rspoil_u (s := x.s) UW.out TW.out (show x.u.2.1 ≤ maxLen by have := NW.out.1; have := L5.out; unfold maxLen; omega) (show x.t.2.1 ≤ maxLen by have := NW.out.2; have := L5.out; unfold maxLen; omega) S0.out UU.out UT.out).mono ?_
              rintro e w10 ⟨rfl, sp⟩
              have S9 := hide (S.out.trans sp)
              clear sp S UW TW c0 c1 c2
              go_wp2_with fail
              exact ⟨⟨k + 1, by omega, by go_num, S9⟩, by simp [intOf]; omega⟩
            · obtain rfl : k = n5 := by omega
              have T9 := hide (T8.out.keepC S.out.2 S.out.1.2.1)
              replace D := hide (D.out.trans S.out.1.1)
              clear S FG T8 U5
              go_wp2_with fail
              refine (vmake_f (TL.out.step D.out).tv (by have := DL.out; omega) (by omega) (by omega)).mono ?_
              rintro e w9 ⟨v9, d9, rfl, t9, f9, g9, bx⟩
              obtain ⟨A9, n9, c9, rfl⟩ := rv_sl t9.1
              have E9 := hide (Fm.unique F8.out f9 (fun c hc => (G8.out c hc).trans (g9 c hc).symm))
              have K9 := hide t9
              replace T9 := hide (T9.out.step bx)
              replace D := hide (Below.step D.out D.out.size bx)
              clear t9 f9 g9 bx
              go_wp2_with fail
              refine (same_t T9.out K9.out E9.out).mono ?_
              rintro e w11 ⟨rfl, bx⟩
              replace D := hide (Below.step D.out D.out.size bx)
              clear bx T9 K9
              go_wp2_with fail
              refine (same_v (T4.out.step D.out) (TL.out.step D.out)).mono ?_
              rintro e w12 ⟨rfl, bx⟩
              replace D := hide (Below.step D.out D.out.size bx)
              clear bx
              go_wp2_with fail
              go_ret
              exact ⟨rfl, Below.step B.out B.out.size D.out⟩
    · have t1 : decide (300 < n) = true := decide_eq_true (by omega)
      by_cases hb : n ≤ 65536
      · have t2 : decide (n ≤ 65536) = true := decide_eq_true hb
        go_wp2_with fail
        go_ret
        exact ⟨rfl, B.out⟩
      · have t2 : decide (n ≤ 65536) = false := decide_eq_false hb
        have HNN := hide (show n ≤ 300 ∨ 65536 < n from .inr (by omega))
        clear ha hb
        go_wp2_with fail
        refine (copy_v TL.out (by omega) (by have := DL.out; omega)).mono ?_
        rintro e w4 ⟨v4, d4, rfl, t4, bx⟩
        obtain ⟨A4, n4, c4, rfl⟩ := rv_sl t4.tl.1
        replace TL := hide (TL.out.step bx)
        replace B := hide (Below.step B.out B.out.size bx)
        have T4 := hide t4.tl
        have M4 := hide (t4.tl.tms TL.out)
        have N4 := hide (show d4.length ≤ 30 by have := DL.out; have := t4.2.1; have := TL.out.2.1; omega)
        clear bx t4
        go_wp2_with fail
        refine (scatter_g (n := n) T4.out.tv (by have := N4.out; omega) (by omega) (by omega)).mono ?_
        rintro e w5 ⟨bx, hs⟩
        have D := hide bx
        rw [M4.out] at hs
        clear bx
        rcases hs with ⟨bad, rfl⟩ | ⟨good, v5, l5, rfl, fg, hlen, val⟩
        · have BAD := hide bad
          clear bad
          go_wp2_with fail
          refine (vscatter_f (n := n) (TL.out.step D.out).tv (by have := DL.out; omega) (by omega) (by omega) HNN.out).mono ?_
          rintro e w6 ⟨bx, hs⟩
          replace D := hide (Below.step D.out D.out.size bx)
          clear bx
          rcases hs with ⟨-, v6, rfl, nil⟩ | ⟨good, -⟩
          · have NIL := hide nil
            obtain ⟨A6, n6, c6, rfl⟩ := rv_sl nil.1
            clear nil
            go_wp2_with fail
            refine (sameall_t (d := []) (f := []) (L := 1) (M := 1) ⟨Lr.nil er 3 _, fun x hx => by cases hx⟩ NIL.out rfl).mono ?_
            rintro e w7 ⟨rfl, bx⟩
            replace D := hide (Below.step D.out D.out.size bx)
            clear bx NIL
            go_wp2_with fail
            go_ret
            exact ⟨rfl, Below.step B.out B.out.size D.out⟩
          · exact absurd BAD.out good
        · have GOOD := hide good
          have FG := hide fg
          have HL := hide hlen
          have VAL := hide val
          have N5 := hide (show l5.length ≤ 300 by
            rcases HNN.out with h | h
            · omega
            · exact absurd (show ScBad (tms d) n from .inr (.inl h)) good)
          obtain ⟨A5, n5, c5, rfl⟩ := rv_sl fg.fv.1
          have HN5 := hide (show n5 = l5.length by
            obtain ⟨A', c', e, _⟩ := fg.fv.1
            injection e with e1 e2 e3)
          have hn59 : n5 ≤ 300 := by rw [HN5.out]; exact N5.out
          have L5 := hide (show d4.length * (6 + 1) + 1 ≤ 1000 by have := N4.out; omega)
          have U5 := hide (show ∀ x ∈ l5, (0 < x.u.2.1 → ∀ b off, x.u.1 = some ⟨b, off, none⟩ → b < w5.heap.size) ∧ (0 < x.t.2.1 → ∀ b off, x.t.1 = some ⟨b, off, none⟩ → b < w5.heap.size) from fun x hx => ⟨(fg.2 x hx).2.1.lt, (fg.2 x hx).2.2.lt⟩)
          have E5 := hide D.out.size
          clear good fg hlen val
          go_wp2_with fail
          refine (vscatter_f (n := n) (TL.out.step D.out).tv (by have := DL.out; omega) (by omega) (by omega) HNN.out).mono ?_
          rintro e w6 ⟨bx, hs⟩
          replace D := hide (Below.step D.out D.out.size bx)
          have SZ := hide bx.size
          replace FG := hide (FG.out.step bx)
          clear bx
          rcases hs with ⟨bad, -⟩ | ⟨-, v6, l6, rfl, fc, hlen6, val6⟩
          · exact absurd bad GOOD.out
          · have FC := hide fc
            have EQ := hide (show l5.map Rx.r = l6.map Rx.r from by
              apply List.ext_getElem?
              intro j
              rw [List.getElem?_map, List.getElem?_map]
              by_cases hj : j < l5.length
              · obtain ⟨x, hx⟩ := len_of hj
                obtain ⟨y, hy⟩ := len_of (d := l6) (k := j) (by have := HL.out; omega)
                rw [hx, hy]
                simp only [Option.map_some, VAL.out j x hx, val6 j y hy]
              · rw [List.getElem?_eq_none (by omega), List.getElem?_eq_none (by have := HL.out; omega)])
            obtain ⟨A6, n6, c6, rfl⟩ := rv_sl fc.1
            clear fc hlen6 val6
            go_wp2_with fail
            refine (sameall_t FG.out.fc FC.out EQ.out).mono ?_
            rintro e w7 ⟨rfl, bx⟩
            replace D := hide (Below.step D.out D.out.size bx)
            replace SZ := hide (Nat.le_trans SZ.out bx.size)
            replace FG := hide (FG.out.step bx)
            clear bx FC EQ
            go_wp2_with fail
            refine (gather_g FG.out.fv (by have := N5.out; omega) (by omega) (by have := L5.out; omega)).mono ?_
            rintro e w8 ⟨v8, d8, rfl, t8, f8, g8, n8, bx⟩
            obtain ⟨A8, n8', c8, rfl⟩ := rv_sl t8.tv.1
            have T8 := hide t8
            have F8 := hide f8
            have G8 := hide (show ∀ c, 0 ≤ c → gsum (tms d8) c = gsum (tms d) c from fun c hc => by
              rw [g8 c hc]
              by_cases h : c < n
              · obtain ⟨x, hx⟩ := len_of (d := l5) (k := c.toNat) (by have := HL.out; omega)
                have h1 := xf_in hx
                rw [Int.toNat_of_nonneg hc] at h1
                have h2 := VAL.out _ x hx
                rw [Int.toNat_of_nonneg hc] at h2
                rw [h1, h2]
              · rw [xf_out l5 c (.inr (by have := HL.out; omega))]
                rcases Classical.em (gsum (tms d) c = 0) with h0 | h0
                · exact h0.symm
                · exact absurd (show ScBad (tms d) n from .inr (.inr ⟨c, by omega, hc, h0⟩)) GOOD.out)
            replace D := hide (Below.step D.out D.out.size bx)
            replace SZ := hide (show w5.heap.size ≤ w7.heap.size from SZ.out)
            replace FG := hide (FG.out.step bx)
            clear t8 f8 g8 n8 bx
            go_wp2_with fail
            go_loopw [53] (fun iv wr => ∃ k : Nat, k ≤ n5 ∧ iv = .int .i64 (k : Int) ∧ Hid (Spu w4.heap.size w7.heap.size w8 wr)) (fun iv _ => n5 - (intOf iv).toNat)
            case atStart => exact ⟨0, Nat.zero_le _, rfl, hide (Spu.refl _ _ _)⟩
            case round =>
              obtain ⟨k, hk, rfl, S⟩ := hrel
              by_cases hlt : k < n5
              · obtain ⟨x, hx⟩ := len_of (d := l5) (k := k) (by rw [← HN5.out]; exact hlt)
                have OW := hide (S.out.1.ow (by decide) FG.out.1)
                have E := E3.of (OW.out.rl er_len) hx
                obtain ⟨b, off, rfl, c0, c1, c2⟩ := E
                have hm := fl_mem' hx
                have X9 := FG.out.2 x hm
                have UW := hide (S.out.1.wr X9.2.1)
                have TW := hide (S.out.1.wr X9.2.2)
                have NW := hide X9.1.n_le
                have U9 := U5.out x hm
                have UU := hide (show 0 < x.u.2.1 → ∀ b off, x.u.1 = some ⟨b, off, none⟩ → b < w7.heap.size from fun h b o e => Nat.lt_of_lt_of_le (U9.1 h b o e) SZ.out)
                have UT := hide (show 0 < x.t.2.1 → ∀ b off, x.t.1 = some ⟨b, off, none⟩ → b < w7.heap.size from fun h b o e => Nat.lt_of_lt_of_le (U9.2 h b o e) SZ.out)
                have S0 := hide (Nat.le_trans D.out.size S.out.1.2.1)
                have l0 : (0 : Int) ≤ (k : Int) := by omega
                have l1 : (k : Int) < (n5 : Int) := by omega
                clear hx X9 hm U9 OW
                go_wp2_with fail
                refine (rspoil_u (s := x.s) UW.out TW.out (show x.u.2.1 ≤ maxLen by have := NW.out.1; have := L5.out; unfold maxLen; omega) (show x.t.2.1 ≤ maxLen by have := NW.out.2; have := L5.out; unfold maxLen; omega) S0.out UU.out UT.out).mono ?_
                rintro e w10 ⟨rfl, sp⟩
                have S9 := hide (S.out.trans sp)
                clear sp S UW TW c0 c1 c2
                go_wp2_with fail
                exact ⟨⟨k + 1, by omega, by go_num, S9⟩, by simp [intOf]; omega⟩
              · obtain rfl : k = n5 := by omega
                have T9 := hide (T8.out.keepC S.out.2 S.out.1.2.1)
                replace D := hide (D.out.trans S.out.1.1)
                clear S FG T8 U5
                go_wp2_with fail
                refine (vmake_f (TL.out.step D.out).tv (by have := DL.out; omega) (by omega) (by omega)).mono ?_
                rintro e w9 ⟨v9, d9, rfl, t9, f9, g9, bx⟩
                obtain ⟨A9, n9, c9, rfl⟩ := rv_sl t9.1
                have E9 := hide (Fm.unique F8.out f9 (fun c hc => (G8.out c hc).trans (g9 c hc).symm))
                have K9 := hide t9
                replace T9 := hide (T9.out.step bx)
                replace D := hide (Below.step D.out D.out.size bx)
                clear t9 f9 g9 bx
                go_wp2_with fail
                refine (same_t T9.out K9.out E9.out).mono ?_
                rintro e w11 ⟨rfl, bx⟩
                replace D := hide (Below.step D.out D.out.size bx)
                clear bx T9 K9
                go_wp2_with fail
                refine (same_v (T4.out.step D.out) (TL.out.step D.out)).mono ?_
                rintro e w12 ⟨rfl, bx⟩
                replace D := hide (Below.step D.out D.out.size bx)
                clear bx
                go_wp2_with fail
                go_ret
                exact ⟨rfl, Below.step B.out B.out.size D.out⟩
end Go.Proofs.YtajjpepjbflojaaGreat
