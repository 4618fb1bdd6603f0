/-
  The walk of NatBack: true.
-/
import Derived.Test.YtpeopcafafonkaaDoorDigits
import Derived.Test.YtpeopcafafonkaaDoorDivFull
namespace Go.Proofs.YtpeopcafafonkaaDoor
open Go.RowKit Go.Proofs.YtpeopcafafonkaaDoor.Num
set_option linter.unusedVariables false
set_option maxRecDepth 100000


theorem mul_b {w : World} {u v : Value} {x y L M K : Nat} (hu : Nw w u x L) (hv : Nw w v y M) (hL : L ≤ 17592186044416) (hM : M ≤ 17592186044416) (hK : x * y < Q ^ K) :
    Calls Tryd.prog 34 #[u, v] w fun e w' => ∃ r, e = .returned r ∧ Own .u64 53 w' w.heap.size r (cn Q (x * y)) ∧ Cw w' r (x * y) K ∧ Below w.heap.size w w' :=
  (mul_n hu hv hL hM).mono fun e w' ⟨r, he, ho, _, hb⟩ => ⟨r, he, ho, Cw.of ho hK, hb⟩
theorem ntrim_zero {w : World} {u : Value} {L : Nat} (hu : Nw w u 0 L) (hL : L ≤ 17592186044000) :
    Calls Tryd.prog 40 #[u] w fun e w' => ∃ A c, e = .returned (.slice A 0 c) ∧ Below w.heap.size w w' := by
  refine (ntrim_n hu hL).mono fun e w' ⟨r, he, _, hc, hb⟩ => ?_
  obtain ⟨A, c, rfl, _⟩ := hc
  exact ⟨A, c, by rw [he, cn_zero]; rfl, hb⟩

set_option maxHeartbeats 8000000 in
theorem back_true (w : World) (u v : Value) (x y : Nat) (hu : Nw w u x 17592186043904) (hv : Nw w v y 17592186043904) :
    Calls Tryd.prog 7 #[u, v] w fun e w' => e = .returned (.bool true) ∧ Below w.heap.size w w' := by
  have hxL := hide hu.lt
  obtain ⟨xs, hx, hU⟩ := hu.lw
  obtain ⟨ys, hy, hV⟩ := hv.lw
  have U := hide hU
  have V := hide hV
  have HX := hide hx
  have HY := hide hy
  clear hU hV hx hy hu hv
  rcases Nat.eq_zero_or_pos y with h0 | h0
  · subst h0
    go_enter Tryd.func7, Tryd.ntmps7
    go_wp2_with fail
    refine (speaks_true w).mono ?_
    rintro e w1 ⟨rfl, b⟩
    have U := hide (U.out.step b)
    have V := hide (V.out.step b)
    have B := hide b
    clear b
    go_wp2_with fail
    refine (copy_l U.out (by omega)).mono ?_
    rintro e w2 ⟨r1, rfl, -, c1, b⟩
    have U := hide (U.out.step b)
    have V := hide (V.out.step b)
    have B := hide (Below.step B.out B.out.size b)
    have X := hide c1
    clear b c1
    go_wp2_with fail
    refine (copy_l V.out (by omega)).mono ?_
    rintro e w3 ⟨r2, rfl, -, c2, b⟩
    have U := hide (U.out.step b)
    have V := hide (V.out.step b)
    have X := hide (X.out.step b)
    have B := hide (Below.step B.out B.out.size b)
    have Y := hide c2
    clear b c2
    go_wp2_with fail
    refine (ndivmod_zero X.out.nw (by rw [← HY.out]; exact Y.out.nw) (by omega)).mono ?_
    rintro e w4 ⟨rfl, b⟩
    have U := hide (U.out.step b)
    have V := hide (V.out.step b)
    have X := hide (X.out.step b)
    have Y := hide (Y.out.step b)
    have B := hide (Below.step B.out B.out.size b)
    clear b
    go_wp2_with fail
    refine (ntrim_zero (by rw [← HY.out]; exact V.out.nw) (by omega)).mono ?_
    rintro e w5 ⟨A0, c0, rfl, b⟩
    have U := hide (U.out.step b)
    have V := hide (V.out.step b)
    have X := hide (X.out.step b)
    have Y := hide (Y.out.step b)
    have B := hide (Below.step B.out B.out.size b)
    clear b
    go_wp2_with fail
    go_ret
    exact ⟨rfl, B.out⟩
  · have HP := hide h0
    have hcm : cmpN (x % y) y = -1 := cmpN_lt (Nat.mod_lt _ h0)
    have hcx : cmpN (x / y * y + x % y) x = 0 := by rw [Nat.div_add_mod']; exact cmpN_eq x
    have hqb : Hid (x / y * y < Q ^ 17592186043904) := hide (Nat.lt_of_le_of_lt (Nat.div_mul_le_self _ _) hxL.out)
    have HCM := hide hcm
    have HCX := hide hcx
    clear hcm hcx h0
    go_enter Tryd.func7, Tryd.ntmps7
    go_wp2_with fail
    refine (speaks_true w).mono ?_
    rintro e w1 ⟨rfl, b⟩
    have U := hide (U.out.step b)
    have V := hide (V.out.step b)
    have B := hide b
    clear b
    go_wp2_with fail
    refine (copy_l U.out (by omega)).mono ?_
    rintro e w2 ⟨r1, rfl, -, c1, b⟩
    have U := hide (U.out.step b)
    have V := hide (V.out.step b)
    have B := hide (Below.step B.out B.out.size b)
    have X := hide c1
    clear b c1
    go_wp2_with fail
    refine (copy_l V.out (by omega)).mono ?_
    rintro e w3 ⟨r2, rfl, -, c2, b⟩
    have U := hide (U.out.step b)
    have V := hide (V.out.step b)
    have X := hide (X.out.step b)
    have B := hide (Below.step B.out B.out.size b)
    have Y := hide c2
    clear b c2
    go_wp2_with fail
    refine (ndivmod (x := x) (y := y) (by rw [← HX.out]; exact X.out.nw) (by rw [← HY.out]; exact Y.out.nw) (by omega) HP.out).mono ?_
    rintro e w4 ⟨qv, rv, rfl, -, -, -, cq, cr, b⟩
    have U := hide (U.out.step b)
    have V := hide (V.out.step b)
    have B := hide (Below.step B.out B.out.size b)
    have CQ := hide cq
    have CR := hide cr
    clear b cq cr
    go_wp2_with fail
    refine (mul_b (y := y) (K := 17592186043904) CQ.out.nw (by rw [← HY.out]; exact V.out.nw) (by omega) (by omega) hqb.out).mono ?_
    rintro e w5 ⟨pv, rfl, -, cp, b⟩
    have U := hide (U.out.step b)
    have V := hide (V.out.step b)
    have CQ := hide (CQ.out.step b)
    have CR := hide (CR.out.step b)
    have B := hide (Below.step B.out B.out.size b)
    have CP := hide cp
    clear b cp
    go_wp2_with fail
    refine (add_n (K := 17592186043904) CP.out.nw CR.out.nw (by omega) (by omega) (by omega) (by omega)).mono ?_
    rintro e w6 ⟨sv, rfl, -, cs, b⟩
    have U := hide (U.out.step b)
    have V := hide (V.out.step b)
    have CQ := hide (CQ.out.step b)
    have CR := hide (CR.out.step b)
    have B := hide (Below.step B.out B.out.size b)
    have CS := hide cs
    clear b cs
    go_wp2_with fail
    refine (cmp_n (y := x) CS.out.nw (by rw [← HX.out]; exact U.out.nw) (by omega) (by omega)).mono ?_
    rw [HCX.out]
    rintro e w_ ⟨rfl, rfl⟩
    go_wp2_with fail
    refine (cmp_n (y := y) CR.out.nw (by rw [← HY.out]; exact V.out.nw) (by omega) (by omega)).mono ?_
    rw [HCM.out]
    rintro e w_ ⟨rfl, rfl⟩
    go_wp2_with fail
    refine (ntrim_n CR.out.nw (by omega)).mono ?_
    rintro e w7 ⟨tv, rfl, -, ct, b⟩
    have U := hide (U.out.step b)
    have V := hide (V.out.step b)
    have CQ := hide (CQ.out.step b)
    have CR := hide (CR.out.step b)
    have CS := hide (CS.out.step b)
    have B := hide (Below.step B.out B.out.size b)
    have T := hide ct
    clear b ct
    go_wp2_with fail
    refine (same_c CR.out T.out rfl).mono ?_
    rintro e w8 ⟨rfl, b⟩
    have U := hide (U.out.step b)
    have V := hide (V.out.step b)
    have CQ := hide (CQ.out.step b)
    have CS := hide (CS.out.step b)
    have B := hide (Below.step B.out B.out.size b)
    clear b
    go_wp2_with fail
    refine (ntrim_n CQ.out.nw (by omega)).mono ?_
    rintro e w9 ⟨tw, rfl, -, ct, b⟩
    have U := hide (U.out.step b)
    have V := hide (V.out.step b)
    have CQ := hide (CQ.out.step b)
    have CS := hide (CS.out.step b)
    have B := hide (Below.step B.out B.out.size b)
    have T := hide ct
    clear b ct
    go_wp2_with fail
    refine (same_c CQ.out T.out rfl).mono ?_
    rintro e w10 ⟨rfl, b⟩
    have U := hide (U.out.step b)
    have V := hide (V.out.step b)
    have CS := hide (CS.out.step b)
    have B := hide (Below.step B.out B.out.size b)
    clear b
    go_wp2_with fail
    go_ret
    exact ⟨rfl, B.out⟩
end Go.Proofs.YtpeopcafafonkaaDoor
