/-
  The walk of VecGets: true.
-/
import Derived.Test.YtajjpepjbflojaaGreatVecLinW

namespace Go.Proofs.YtajjpepjbflojaaGreat
open Go.RowKit Go.Proofs.YtajjpepjbflojaaGreat.Num
set_option linter.unusedVariables false
set_option linter.unusedSimpArgs false
set_option maxRecDepth 100000

theorem gt_sum {g v f : List Tm} {r : Rat} (h : ∀ c, 0 ≤ c → gsum g c = r * gsum v c + gsum f c) {c : Int} : gt g c = r * gt v c + gt f c := by
  unfold gt
  split
  · rename_i h0; exact h c h0
  · grind
theorem twice {g1 v g2 g4 : List Tm} {r : Rat} (h1 : ∀ c, 0 ≤ c → gsum g1 c = r * gsum v c) (h2 : ∀ c, 0 ≤ c → gsum g2 c = r * gsum g1 c) (f2 : Fm g2) (h4 : ∀ c, 0 ≤ c → gsum g4 c = (r * r) * gsum v c) (f4 : Fm g4) : g2 = g4 :=
  Fm.unique f2 f4 (fun c hc => by rw [h2 c hc, h1 c hc, h4 c hc]; grind)

set_option maxHeartbeats 16000000 in
theorem vgets_true (w : World) (a0 : Rx) (ra : Rat) (v u : Value) (d f : List Tx) (ha : Ra w (rx a0) ra 17592186043904) (hv : Tv w v d 17592186043904) (hu : Tv w u f 17592186043904) :
    Calls Tryz.prog 9 #[rx a0, v, u] w fun e w' => e = .returned (.bool true) ∧ Below w.heap.size w w' := by
  obtain ⟨A1, n1, c1, rfl⟩ := rv_sl hv.1
  obtain ⟨A2, n2, c2, rfl⟩ := rv_sl hu.1
  have b0 := alloc_below w (rbox a0.s (sv a0.u) (sv a0.t))
  have Q := hide (Bq.new w a0.s (sv a0.u) (sv a0.t))
  have HA := hide (ha.step b0)
  have HV := hide (hv.step b0)
  have HU := hide (hu.step b0)
  have B := hide b0
  obtain ⟨i0, hi, hz0, hz1, hz2⟩ := info_parts info_rt
  clear ha hv hu b0
  go_enter Tryz.func9, Tryz.ntmps9
  go_wp2_with fail
  refine (vspeaks_true _).mono ?_
  rintro e w1 ⟨rfl, bx⟩
  replace Q := hide (Q.out.step bx)
  replace HA := hide (HA.out.step bx)
  replace HV := hide (HV.out.step bx)
  replace HU := hide (HU.out.step bx)
  replace B := hide (Below.step B.out B.out.size bx)
  clear bx
  go_wp2_with fail
  refine (great_c HV.out (by omega)).mono ?_
  rintro e w2 ⟨bx, p, rfl, hp⟩
  replace Q := hide (Q.out.step bx)
  replace HA := hide (HA.out.step bx)
  replace HV := hide (HV.out.step bx)
  replace HU := hide (HU.out.step bx)
  replace B := hide (Below.step B.out B.out.size bx)
  have HP := hide hp
  clear bx hp
  cases p with
  | true =>
    go_wp2_with fail
    go_ret
    exact ⟨rfl, B.out⟩
  | false =>
    obtain ⟨dl, dw⟩ := HP.out rfl
    replace HV := hide (HV.out.tight dw)
    have DL := hide dl
    clear dl dw HP
    go_wp2_with fail
    refine (great_c HU.out (by omega)).mono ?_
    rintro e w3 ⟨bx, p, rfl, hp⟩
    replace Q := hide (Q.out.step bx)
    replace HA := hide (HA.out.step bx)
    replace HV := hide (HV.out.step bx)
    replace HU := hide (HU.out.step bx)
    replace B := hide (Below.step B.out B.out.size bx)
    have HP := hide hp
    clear bx hp
    cases p with
    | true =>
      go_wp2_with fail
      go_ret
      exact ⟨rfl, B.out⟩
    | false =>
      obtain ⟨dl, dw⟩ := HP.out rfl
      replace HU := hide (HU.out.tight dw)
      have FL := hide dl
      clear dl dw HP
      obtain ⟨p0, p1, p2⟩ := bq3 Q.out
      go_wp2_with fail
      refine (words_x HA.out (by omega)).mono ?_
      rintro e w4 ⟨rfl, bx⟩
      replace Q := hide (Q.out.step bx)
      replace HA := hide (HA.out.step bx)
      replace HV := hide (HV.out.step bx)
      replace HU := hide (HU.out.step bx)
      replace B := hide (Below.step B.out B.out.size bx)
      obtain ⟨m, hm⟩ : ∃ m, m = a0.u.2.1 + a0.t.2.1 := ⟨_, rfl⟩
      rw [← hm]
      have HM := hide hm
      clear bx p0 p1 p2 hm
      by_cases h6 : 6 < m
      · have t1 : decide ((6 : Int) < (m : Int)) = true := decide_eq_true (by omega)
        go_wp2_with fail
        go_ret
        exact ⟨rfl, B.out⟩
      · have t1 : decide ((6 : Int) < (m : Int)) = false := decide_eq_false (by omega)
        replace HA := hide (big_words HA.out HM.out h6)
        obtain ⟨p0, p1, p2⟩ := bq3 Q.out
        clear h6
        go_wp2_with fail
        refine (axpy_t HA.out HV.out HU.out (by have := DL.out; have := FL.out; omega) (by omega) (by omega) (by omega) (by omega)).mono ?_
        rintro e w6 ⟨v9, d9, rfl, t9, f9, g9, n9', b9⟩
        have N9 := hide (show d9.length ≤ 60 by have := DL.out; have := FL.out; omega)
        have SG := hide ((t9.more (M := 1000) (by have := DL.out; have := FL.out; omega)).tc)
        have F9 := hide f9
        have G9 := hide g9
        obtain ⟨Ax, n7, c7, rfl⟩ := rv_sl t9.tv.1
        replace Q := hide (Q.out.step b9)
        replace HA := hide (HA.out.step b9)
        replace HV := hide (HV.out.step b9)
        replace HU := hide (HU.out.step b9)
        replace B := hide (Below.step B.out B.out.size b9)
        clear t9 f9 g9 n9' b9 p0 p1 p2
        go_wp2_with fail
        go_loopw [8] (fun iv wr => ∃ k : Nat, k ≤ 11 ∧ iv = .int .i64 ((k : Int) - 1) ∧ Hid (Below w6.heap.size w6 wr)) (fun iv _ => (10 - intOf iv).toNat)
        case atStart => exact ⟨0, by omega, rfl, hide (Below.refl _ _)⟩
        case round =>
          obtain ⟨k, hk, rfl, BW⟩ := hrel
          have b8 := BW.out.trans ((Below.refl wr.heap.size wr).drew.mono BW.out.size)
          replace Q := hide (Q.out.step b8)
          have A9 := hide (HA.out.step b8)
          have V9 := hide (HV.out.step b8)
          have U9 := hide (HU.out.step b8)
          have S9 := hide (SG.out.step b8)
          replace B := hide (Below.step B.out B.out.size b8)
          have BX := hide b8
          clear HA HV HU SG b8
          by_cases hlt : k < 11
          · have t2 : decide ((k : Int) - 1 < 10) = true := decide_eq_true (by omega)
            go_wp2_with fail
            go_region_held3 (fun W => W.cell? ⟨w.heap.size, 0, none⟩ = some (.bool a0.s) ∧ W.cell? ⟨w.heap.size, 1, none⟩ = some (sv a0.u) ∧ W.cell? ⟨w.heap.size, 2, none⟩ = some (sv a0.t))
              (exact bq3 Q.out)
              (first
                | (go_at_call 42; refine Calls.mono (get_g (col := (k : Int) - 1) S9.out.tv (by have := N9.out; omega) (by omega) (by omega)) ?_; rintro e wx ⟨z1, rfl, hz, rz, bx⟩; replace Q := hide (Q.out.step bx); replace A9 := hide (A9.out.step bx); replace V9 := hide (V9.out.step bx); replace U9 := hide (U9.out.step bx); replace S9 := hide (S9.out.step bx); replace BX := hide (Below.step BX.out BX.out.size bx); replace B := hide (Below.step B.out B.out.size bx); have Z1 := hide (rz.1.more (M := 70000) (by have := N9.out; omega)); have H1 := hide (hz.trans (gt_sum G9.out)); clear hz rz bx)
                | (go_at_call 42; refine Calls.mono (get_g (col := (k : Int) - 1) V9.out (by have := DL.out; omega) (by omega) (by omega)) ?_; rintro e wx ⟨z2, rfl, hz, rz, bx⟩; replace Q := hide (Q.out.step bx); replace A9 := hide (A9.out.step bx); replace V9 := hide (V9.out.step bx); replace U9 := hide (U9.out.step bx); replace S9 := hide (S9.out.step bx); replace BX := hide (Below.step BX.out BX.out.size bx); replace B := hide (Below.step B.out B.out.size bx); replace Z1 := hide (Z1.out.step bx); have Z2 := hide (rz.1.more (M := 1000) (by have := DL.out; omega)); have H2 := hide hz; clear hz rz bx)
                | (go_at_call 23; refine Calls.mono (mul_g A9.out Z2.out.ra (by omega) (by omega) (by omega) (by omega)) ?_; rintro e wx ⟨z3, rfl, hz, rz, bx⟩; replace Q := hide (Q.out.step bx); replace A9 := hide (A9.out.step bx); replace V9 := hide (V9.out.step bx); replace U9 := hide (U9.out.step bx); replace S9 := hide (S9.out.step bx); replace BX := hide (Below.step BX.out BX.out.size bx); replace B := hide (Below.step B.out B.out.size bx); replace Z1 := hide (Z1.out.step bx); have Z3 := hide rz.1; have H3 := hide hz; clear hz rz bx)
                | (go_at_call 42; refine Calls.mono (get_g (col := (k : Int) - 1) U9.out (by have := FL.out; omega) (by omega) (by omega)) ?_; rintro e wx ⟨z4, rfl, hz, rz, bx⟩; replace Q := hide (Q.out.step bx); replace A9 := hide (A9.out.step bx); replace V9 := hide (V9.out.step bx); replace U9 := hide (U9.out.step bx); replace S9 := hide (S9.out.step bx); replace BX := hide (Below.step BX.out BX.out.size bx); replace B := hide (Below.step B.out B.out.size bx); replace Z1 := hide (Z1.out.step bx); replace Z3 := hide (Z3.out.step bx); have Z4 := hide (rz.1.more (M := 1000) (by have := FL.out; omega)); have H4 := hide hz; clear hz rz bx)
                | (go_at_call 21; refine Calls.mono (add_g Z3.out.ra Z4.out.ra (by omega) (by omega) (by omega) (by omega)) ?_; rintro e wx ⟨z5, rfl, hz, rz, bx⟩; replace Q := hide (Q.out.step bx); replace A9 := hide (A9.out.step bx); replace V9 := hide (V9.out.step bx); replace U9 := hide (U9.out.step bx); replace S9 := hide (S9.out.step bx); replace BX := hide (Below.step BX.out BX.out.size bx); replace B := hide (Below.step B.out B.out.size bx); replace Z1 := hide (Z1.out.step bx); have Z5 := hide (show Rc wx (rx z5) z1.r _ from (show z5.r = z1.r by rw [hz, H1.out, H4.out, H3.out, H2.out]) ▸ rz.1); clear hz rz bx)
                | (go_at_call 37; refine Calls.mono (rsame_c Z1.out Z5.out) ?_; rintro e wx ⟨rfl, bx⟩; replace Q := hide (Q.out.step bx); replace A9 := hide (A9.out.step bx); replace V9 := hide (V9.out.step bx); replace U9 := hide (U9.out.step bx); replace S9 := hide (S9.out.step bx); replace BX := hide (Below.step BX.out BX.out.size bx); replace B := hide (Below.step B.out B.out.size bx); clear bx))
            all_goals
              clear Q A9 V9 U9 S9 B
              go_wp2_with fail
              exact ⟨⟨k + 1, by omega, by go_num, BX⟩, by simp [intOf]; omega⟩
          · obtain rfl : k = 11 := by omega
            go_wp2_with fail
            go_region_held3 (fun W => W.cell? ⟨w.heap.size, 0, none⟩ = some (.bool a0.s) ∧ W.cell? ⟨w.heap.size, 1, none⟩ = some (sv a0.u) ∧ W.cell? ⟨w.heap.size, 2, none⟩ = some (sv a0.t))
              (exact bq3 Q.out)
              (first
                | (go_at_call 49; refine Calls.mono (scale_t A9.out V9.out (by have := DL.out; omega) (by omega) (by omega) (by omega) (by omega)) ?_; rintro e wx ⟨x1, y1, rfl, t1, f1, g1, n1, bx⟩; replace Q := hide (Q.out.step bx); replace A9 := hide (A9.out.step bx); replace V9 := hide (V9.out.step bx); replace S9 := hide (S9.out.step bx); replace BX := hide (Below.step BX.out BX.out.size bx); replace B := hide (Below.step B.out B.out.size bx); have T1 := hide ((t1.more (M := 400) (by have := DL.out; omega)).tv); have E1 := hide g1; have K1 := hide (show y1.length ≤ 30 by have := DL.out; omega); clear t1 f1 g1 n1 bx)
                | (go_at_call 49; refine Calls.mono (scale_t A9.out T1.out (by have := K1.out; omega) (by omega) (by omega) (by omega) (by omega)) ?_; rintro e wx ⟨x2, y2, rfl, t2, f2, g2, n2, bx⟩; replace Q := hide (Q.out.step bx); replace A9 := hide (A9.out.step bx); replace V9 := hide (V9.out.step bx); replace S9 := hide (S9.out.step bx); replace BX := hide (Below.step BX.out BX.out.size bx); replace B := hide (Below.step B.out B.out.size bx); have T2 := hide t2.tc; have E2 := hide g2; have F2 := hide f2; clear t2 f2 g2 n2 bx)
                | (go_at_call 23; refine Calls.mono (mul_g A9.out A9.out (by omega) (by omega) (by omega) (by omega)) ?_; rintro e wx ⟨z3, rfl, hz, rz, bx⟩; replace Q := hide (Q.out.step bx); replace A9 := hide (A9.out.step bx); replace V9 := hide (V9.out.step bx); replace S9 := hide (S9.out.step bx); replace BX := hide (Below.step BX.out BX.out.size bx); replace B := hide (Below.step B.out B.out.size bx); replace T2 := hide (T2.out.step bx); have Z3 := hide rz.ra; have H3 := hide hz; clear hz rz bx)
                | (go_at_call 49; refine Calls.mono (scale_t Z3.out V9.out (by have := DL.out; omega) (by omega) (by omega) (by omega) (by omega)) ?_; rintro e wx ⟨x4, y4, rfl, t4, f4, g4, n4, bx⟩; replace Q := hide (Q.out.step bx); replace A9 := hide (A9.out.step bx); replace V9 := hide (V9.out.step bx); replace S9 := hide (S9.out.step bx); replace BX := hide (Below.step BX.out BX.out.size bx); replace B := hide (Below.step B.out B.out.size bx); replace T2 := hide (T2.out.step bx); have T4 := hide t4.tc; have E4 := hide (twice E1.out E2.out F2.out (H3.out ▸ g4) f4); clear t4 f4 g4 n4 bx)
                | (go_at_call 43; refine Calls.mono (same_t T2.out T4.out E4.out) ?_; rintro e wx ⟨rfl, bx⟩; replace Q := hide (Q.out.step bx); replace A9 := hide (A9.out.step bx); replace V9 := hide (V9.out.step bx); replace S9 := hide (S9.out.step bx); replace BX := hide (Below.step BX.out BX.out.size bx); replace B := hide (Below.step B.out B.out.size bx); clear bx)
                | (go_at_call 41; refine Calls.mono (make_v S9.out.tv (by have := N9.out; omega) (by omega) (by omega)) ?_; rintro e wx ⟨x6, y6, rfl, t6, f6, g6, n6, bx⟩; replace Q := hide (Q.out.step bx); replace A9 := hide (A9.out.step bx); replace V9 := hide (V9.out.step bx); replace S9 := hide (S9.out.step bx); replace BX := hide (Below.step BX.out BX.out.size bx); replace B := hide (Below.step B.out B.out.size bx); have T6 := hide t6.tc; have E6 := hide (Fm.unique f6 F9.out g6); clear t6 f6 g6 n6 bx)
                | (go_at_call 43; refine Calls.mono (same_t T6.out S9.out E6.out) ?_; rintro e wx ⟨rfl, bx⟩; replace Q := hide (Q.out.step bx); replace A9 := hide (A9.out.step bx); replace V9 := hide (V9.out.step bx); replace S9 := hide (S9.out.step bx); replace BX := hide (Below.step BX.out BX.out.size bx); replace B := hide (Below.step B.out B.out.size bx); clear bx))
            all_goals
              clear Q A9 V9 S9
              go_wp2_with fail
              go_ret
              exact ⟨rfl, B.out⟩
theorem vgets_go (w : World) (a0 : Rx) (ra : Rat) (v : Value) (d : List Tx) (u : Value) (f : List Tx) (ha : Ra w (rx a0) ra 17592186043904) (hv : Tv w v d 17592186043904) (hu : Tv w u f 17592186043904) :
    Calls Tryz.prog 9 #[rx a0, v, u] w fun e w' => e = .returned (.bool true) ∧ Below w.heap.size w w' := vgets_true w a0 ra v u d f ha hv hu
end Go.Proofs.YtajjpepjbflojaaGreat
