/-
  The walk of NatShifts: true.
-/
import Derived.Test.YtpeopcafafonkaaDoorDigits
import Derived.Test.YtpeopcafafonkaaDoorRefL
namespace Go.Proofs.YtpeopcafafonkaaDoor
open Go.RowKit Go.Proofs.YtpeopcafafonkaaDoor.Num
set_option linter.unusedVariables false
set_option maxRecDepth 100000


theorem isBits_ex (x : Nat) : ∃ b, IsBits x b := by
  by_cases h : x = 0
  · exact ⟨0, by rw [h]; exact IsBits.zero⟩
  · exact ⟨x.log2 + 1, Nat.lt_log2_self, fun _ => by rw [Nat.add_sub_cancel]; exact Nat.log2_self_le h⟩
theorem nbits_s {w : World} {u : Value} {x L b : Nat} (hu : Nw w u x L) (hb : IsBits x b) (hL : L ≤ 17592186044000) :
    Calls Tryd.prog 43 #[u] w fun e w' => e = .returned (.int .i64 (b : Int)) ∧ w = w' :=
  (nbits_n hu hL).mono fun e w' ⟨c, he, hc, hw⟩ => ⟨by rw [he, hc.one hb], hw⟩
theorem rbits_s {w : World} {u : Value} {x L b : Nat} (hu : Nw w u x L) (hb : IsBits x b) (hL : L ≤ 17592186044000) :
    Calls Tryd.prog 44 #[u] w fun e w' => e = .returned (.int .i64 (b : Int)) ∧ w = w' := by
  obtain ⟨A, n, c, xs, rfl, h1, h2, h3, h4, rfl, h6⟩ := hu
  exact (rbits_any _ A n c xs w h1 h2 (by omega)).mono fun e w' ⟨c, he, hc, hw⟩ => ⟨by rw [he, hc.one hb], hw⟩
theorem rpower_b (w : World) (n : Nat) (hn : n ≤ 1000000000) :
    Calls Tryd.prog 45 #[.int .i64 (n : Int)] w fun e w' => ∃ r, e = .returned r ∧ Iw w' r (2 ^ n) (n + 1) ∧ Below w.heap.size w w' := rpower w n hn

set_option maxHeartbeats 8000000 in
theorem shifts_true {p : Prop} (w : World) (u : Value) (z : Int) (x : Nat) (hu : Nw w u x 17592186043904) (hz : p) :
    Calls Tryd.prog 9 #[u, .int .i64 z] w fun e w' => e = .returned (.bool true) ∧ Below w.heap.size w w' := by
  obtain ⟨xs, rfl, A, n, c, rfl, rx, dx, h1, h2, -⟩ := hu.lw
  clear hu hz
  by_cases hg : 12 < n
  · have t1 : decide ((12 : Int) < (n : Int)) = true := decide_eq_true (by omega)
    clear rx dx h1 h2 hg
    go_enter Tryd.func9, Tryd.ntmps9
    go_wp2_with fail
    refine (speaks_true w).mono ?_
    rintro e w1 ⟨rfl, b⟩
    go_wp2_with fail
    go_ret
    exact ⟨rfl, b⟩
  · have hn : n ≤ 12 := by omega
    have t1 : decide ((12 : Int) < (n : Int)) = false := decide_eq_false (by omega)
    have U : Hid (Lw w (.slice A n c) xs 12) := hide ⟨A, n, c, rfl, rx, dx, h1, h2, hn⟩
    clear rx dx h1 h2 hg hn
    by_cases hg : 600 < z ∧ z ≤ 65536
    · have t2 : decide (600 < z) = true := decide_eq_true hg.1
      have t3 : decide (z ≤ 65536) = true := decide_eq_true hg.2
      clear hg U
      go_enter Tryd.func9, Tryd.ntmps9
      go_wp2_with fail
      refine (speaks_true w).mono ?_
      rintro e w1 ⟨rfl, b⟩
      go_wp2_with fail
      go_ret
      exact ⟨rfl, b⟩
    · obtain ⟨bb, hbb⟩ := isBits_ex (vl Q xs)
      have BB := hide hbb
      by_cases hbad : z < 0 ∨ 65536 < z
      · have tails : (decide (600 < z) = false ∧ decide (z < 0) = true) ∨ (decide (600 < z) = true ∧ decide (z ≤ 65536) = false ∧ decide (z < 0) = false ∧ decide (65536 < z) = true) := by
          rcases hbad with h | h
          · exact .inl ⟨decide_eq_false (by omega), decide_eq_true h⟩
          · exact .inr ⟨decide_eq_true (by omega), decide_eq_false (by omega), decide_eq_false (by omega), decide_eq_true h⟩
        have BAD := hide hbad
        clear hg hbad hbb
        rcases tails with ⟨t2, t4⟩ | ⟨t2, t3, t4, t5⟩
        all_goals
          go_enter Tryd.func9, Tryd.ntmps9
          go_wp2_with fail
          refine (speaks_true w).mono ?_
          rintro e w1 ⟨rfl, b⟩
          have U := hide (U.out.step b)
          have B := hide b
          clear b
          go_wp2_with fail
          refine (copy_l U.out (by omega)).mono ?_
          rintro e w2 ⟨r1, rfl, -, c1, b⟩
          have U := hide (U.out.step b)
          have B := hide (Below.step B.out B.out.size b)
          have X := hide c1
          clear b c1
          go_wp2_with fail
          refine (nshl_err _ _ z BAD.out).mono ?_
          rintro e w_ ⟨rfl, rfl⟩
          go_wp2_with fail
          refine (copy_l U.out (by omega)).mono ?_
          rintro e w3 ⟨r2, rfl, -, c2, b⟩
          have U := hide (U.out.step b)
          have B := hide (Below.step B.out B.out.size b)
          have Y := hide c2
          clear b c2
          go_wp2_with fail
          refine (nshr_err _ _ z BAD.out).mono ?_
          rintro e w_ ⟨rfl, rfl⟩
          go_wp2_with fail
          refine (copy_l U.out (by omega)).mono ?_
          rintro e w4 ⟨r3, rfl, -, c3, b⟩
          have U := hide (U.out.step b)
          have B := hide (Below.step B.out B.out.size b)
          have X := hide c3
          clear b c3
          go_wp2_with fail
          refine (nbits_s X.out.nw BB.out (by omega)).mono ?_
          rintro e w_ ⟨rfl, rfl⟩
          go_wp2_with fail
          refine (rbits_s U.out.nw BB.out (by omega)).mono ?_
          rintro e w_ ⟨rfl, rfl⟩
          go_wp2_with fail
          refine (copy_l U.out (by omega)).mono ?_
          rintro e w5 ⟨r4, rfl, -, c4, b⟩
          have U := hide (U.out.step b)
          have B := hide (Below.step B.out B.out.size b)
          have Y := hide c4
          clear b c4
          go_wp2_with fail
          refine (ntrim_n Y.out.nw (by omega)).mono ?_
          rintro e w6 ⟨tv, rfl, -, ct, b⟩
          have U := hide (U.out.step b)
          have B := hide (Below.step B.out B.out.size b)
          have T := hide ct
          clear b ct
          go_wp2_with fail
          refine (of_l U.out (by omega)).mono ?_
          rintro e w7 ⟨ma, rfl, -, ca, b⟩
          have U := hide (U.out.step b)
          have T := hide (T.out.step b)
          have B := hide (Below.step B.out B.out.size b)
          have MA := hide ca
          clear b ca
          go_wp2_with fail
          refine (to_l MA.out.iw (by omega)).mono ?_
          rintro e w8 ⟨tw, rfl, -, cw, b⟩
          have U := hide (U.out.step b)
          have T := hide (T.out.step b)
          have B := hide (Below.step B.out B.out.size b)
          have TW := hide cw
          clear b cw
          go_wp2_with fail
          refine (same_c T.out TW.out rfl).mono ?_
          rintro e w9 ⟨rfl, b⟩
          have U := hide (U.out.step b)
          have B := hide (Below.step B.out B.out.size b)
          clear b
          go_wp2_with fail
          go_ret
          exact ⟨rfl, B.out⟩
      · obtain ⟨sh, rfl⟩ : ∃ sh : Nat, z = (sh : Int) := ⟨z.toNat, by omega⟩
        have hs : sh ≤ 600 := by omega
        have t2 : decide ((600 : Int) < (sh : Int)) = false := decide_eq_false (by omega)
        have t4 : decide ((sh : Int) < 0) = false := decide_eq_false (by omega)
        have t5 : decide ((65536 : Int) < (sh : Int)) = false := decide_eq_false (by omega)
        have hp : Hid (0 < 2 ^ sh) := hide (Nat.pow_pos (by omega))
        clear hg hbad hbb
        go_enter Tryd.func9, Tryd.ntmps9
        go_wp2_with fail
        refine (speaks_true w).mono ?_
        rintro e w1 ⟨rfl, b⟩
        have U := hide (U.out.step b)
        have B := hide b
        clear b
        go_wp2_with fail
        refine (copy_l U.out (by omega)).mono ?_
        rintro e w2 ⟨r1, rfl, -, c1, b⟩
        have U := hide (U.out.step b)
        have B := hide (Below.step B.out B.out.size b)
        have X := hide c1
        clear b c1
        go_wp2_with fail
        refine (nshl_ok (K := 40) X.out.nw (by omega) (by omega) (by omega)).mono ?_
        rintro e w3 ⟨lv, rfl, -, cl, b⟩
        have U := hide (U.out.step b)
        have B := hide (Below.step B.out B.out.size b)
        have LV := hide cl
        clear b cl
        go_wp2_with fail
        refine (copy_l U.out (by omega)).mono ?_
        rintro e w4 ⟨r2, rfl, -, c2, b⟩
        have U := hide (U.out.step b)
        have LV := hide (LV.out.step b)
        have B := hide (Below.step B.out B.out.size b)
        have X := hide c2
        clear b c2
        go_wp2_with fail
        refine (nshr_ok X.out.nw (by omega) (by omega)).mono ?_
        rintro e w5 ⟨rv, rfl, -, cr, b⟩
        have U := hide (U.out.step b)
        have LV := hide (LV.out.step b)
        have B := hide (Below.step B.out B.out.size b)
        have RV := hide cr
        clear b cr
        go_wp2_with fail
        refine (copy_l U.out (by omega)).mono ?_
        rintro e w6 ⟨r3, rfl, -, c3, b⟩
        have U := hide (U.out.step b)
        have LV := hide (LV.out.step b)
        have RV := hide (RV.out.step b)
        have B := hide (Below.step B.out B.out.size b)
        have X := hide c3
        clear b c3
        go_wp2_with fail
        refine (nbits_s X.out.nw BB.out (by omega)).mono ?_
        rintro e w_ ⟨rfl, rfl⟩
        go_wp2_with fail
        refine (rbits_s U.out.nw BB.out (by omega)).mono ?_
        rintro e w_ ⟨rfl, rfl⟩
        go_wp2_with fail
        refine (copy_l U.out (by omega)).mono ?_
        rintro e w7 ⟨r4, rfl, -, c4, b⟩
        have U := hide (U.out.step b)
        have LV := hide (LV.out.step b)
        have RV := hide (RV.out.step b)
        have B := hide (Below.step B.out B.out.size b)
        have Y := hide c4
        clear b c4
        go_wp2_with fail
        refine (ntrim_n Y.out.nw (by omega)).mono ?_
        rintro e w8 ⟨tv, rfl, -, ct, b⟩
        have U := hide (U.out.step b)
        have LV := hide (LV.out.step b)
        have RV := hide (RV.out.step b)
        have B := hide (Below.step B.out B.out.size b)
        have T := hide ct
        clear b ct
        go_wp2_with fail
        refine (of_l U.out (by omega)).mono ?_
        rintro e w9 ⟨ma, rfl, -, ca, b⟩
        have U := hide (U.out.step b)
        have LV := hide (LV.out.step b)
        have RV := hide (RV.out.step b)
        have T := hide (T.out.step b)
        have B := hide (Below.step B.out B.out.size b)
        have MA := hide ca
        clear b ca
        go_wp2_with fail
        refine (to_l MA.out.iw (by omega)).mono ?_
        rintro e w10 ⟨tw, rfl, -, cw, b⟩
        have U := hide (U.out.step b)
        have LV := hide (LV.out.step b)
        have RV := hide (RV.out.step b)
        have T := hide (T.out.step b)
        have B := hide (Below.step B.out B.out.size b)
        have TW := hide cw
        clear b cw
        go_wp2_with fail
        refine (same_c T.out TW.out rfl).mono ?_
        rintro e w11 ⟨rfl, b⟩
        have U := hide (U.out.step b)
        have LV := hide (LV.out.step b)
        have RV := hide (RV.out.step b)
        have B := hide (Below.step B.out B.out.size b)
        clear b
        go_wp2_with fail
        refine (of_l U.out (by omega)).mono ?_
        rintro e w12 ⟨mb, rfl, -, cb, b⟩
        have U := hide (U.out.step b)
        have LV := hide (LV.out.step b)
        have RV := hide (RV.out.step b)
        have B := hide (Below.step B.out B.out.size b)
        have MB := hide cb
        clear b cb
        go_wp2_with fail
        refine (rpower_b _ sh (by omega)).mono ?_
        rintro e w13 ⟨pv, rfl, cp, b⟩
        have U := hide (U.out.step b)
        have LV := hide (LV.out.step b)
        have RV := hide (RV.out.step b)
        have MB := hide (MB.out.step b)
        have B := hide (Below.step B.out B.out.size b)
        have PV := hide cp
        clear b cp
        go_wp2_with fail
        refine (idivmod MB.out PV.out hp.out (by omega) (by omega)).mono ?_
        rintro e w14 ⟨qv, sv, rfl, -, -, cq, -, b⟩
        have U := hide (U.out.step b)
        have LV := hide (LV.out.step b)
        have RV := hide (RV.out.step b)
        have B := hide (Below.step B.out B.out.size b)
        have QV := hide cq
        clear b cq
        go_wp2_with fail
        refine (of_l U.out (by omega)).mono ?_
        rintro e w15 ⟨mc, rfl, -, cc, b⟩
        have U := hide (U.out.step b)
        have LV := hide (LV.out.step b)
        have RV := hide (RV.out.step b)
        have QV := hide (QV.out.step b)
        have B := hide (Below.step B.out B.out.size b)
        have MC := hide cc
        clear b cc
        go_wp2_with fail
        refine (rpower_b _ sh (by omega)).mono ?_
        rintro e w16 ⟨pw, rfl, cp, b⟩
        have U := hide (U.out.step b)
        have LV := hide (LV.out.step b)
        have RV := hide (RV.out.step b)
        have QV := hide (QV.out.step b)
        have MC := hide (MC.out.step b)
        have B := hide (Below.step B.out B.out.size b)
        have PW := hide cp
        clear b cp
        go_wp2_with fail
        refine (imul MC.out.iw PW.out (by omega) (by omega)).mono ?_
        rintro e w17 ⟨md, rfl, -, cd, b⟩
        have U := hide (U.out.step b)
        have LV := hide (LV.out.step b)
        have RV := hide (RV.out.step b)
        have QV := hide (QV.out.step b)
        have B := hide (Below.step B.out B.out.size b)
        have MD := hide cd
        clear b cd
        go_wp2_with fail
        refine (to_l MD.out.iw (by omega)).mono ?_
        rintro e w18 ⟨tx, rfl, -, cx, b⟩
        have U := hide (U.out.step b)
        have LV := hide (LV.out.step b)
        have RV := hide (RV.out.step b)
        have QV := hide (QV.out.step b)
        have B := hide (Below.step B.out B.out.size b)
        have TX := hide cx
        clear b cx
        go_wp2_with fail
        refine (same_c LV.out TX.out (Nat.mul_comm _ _)).mono ?_
        rintro e w19 ⟨rfl, b⟩
        have U := hide (U.out.step b)
        have RV := hide (RV.out.step b)
        have QV := hide (QV.out.step b)
        have B := hide (Below.step B.out B.out.size b)
        clear b
        go_wp2_with fail
        refine (to_l QV.out.iw (by omega)).mono ?_
        rintro e w20 ⟨ty, rfl, -, cy, b⟩
        have U := hide (U.out.step b)
        have RV := hide (RV.out.step b)
        have B := hide (Below.step B.out B.out.size b)
        have TY := hide cy
        clear b cy
        go_wp2_with fail
        refine (same_c RV.out TY.out rfl).mono ?_
        rintro e w21 ⟨rfl, b⟩
        have U := hide (U.out.step b)
        have B := hide (Below.step B.out B.out.size b)
        clear b
        go_wp2_with fail
        go_ret
        exact ⟨rfl, B.out⟩
end Go.Proofs.YtpeopcafafonkaaDoor
