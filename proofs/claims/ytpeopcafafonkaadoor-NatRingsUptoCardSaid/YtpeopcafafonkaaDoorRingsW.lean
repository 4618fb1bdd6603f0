/-
  The walks of NatRings (for lists of at most 1048576 words) and NatSquares (for lists as long as the row's reach lets them be): true.
-/
import Derived.Test.YtpeopcafafonkaaDoorSpeak
import Derived.Test.YtpeopcafafonkaaDoorWords
namespace Go.Proofs.YtpeopcafafonkaaDoor
open Go.RowKit Go.Proofs.YtpeopcafafonkaaDoor.Num
set_option linter.unusedVariables false
set_option maxRecDepth 100000

set_option maxHeartbeats 4000000 in
theorem rings_true (w : World) (u v s : Value) (x y z : Nat) (hu : Nw w u x 1048576) (hv : Nw w v y 1048576) (hs : Nw w s z 1048576) :
    Calls Tryd.prog 8 #[u, v, s] w fun e w' => e = .returned (.bool true) ∧ Below w.heap.size w w' := by
  have U := hide hu
  have V := hide hv
  have S := hide hs
  clear hu hv hs
  go_enter Tryd.func8, Tryd.ntmps8
  go_wp2_with fail
  refine (speaks_true w).mono ?_
  rintro e w1 ⟨rfl, b1⟩
  have U := hide (U.out.step b1)
  have V := hide (V.out.step b1)
  have S := hide (S.out.step b1)
  have B := hide b1
  clear b1
  go_wp2_with fail
  refine (add_n (K := 1048576) V.out S.out (by omega) (by omega) (by omega) (by omega)).mono ?_
  rintro e w2 ⟨r1, rfl, -, c1, b2⟩
  have U := hide (U.out.step b2)
  have V := hide (V.out.step b2)
  have S := hide (S.out.step b2)
  have R1 := hide c1
  have B := hide (Below.step B.out B.out.size b2)
  clear c1 b2
  go_wp2_with fail
  refine (mul_n U.out R1.out.nw (by omega) (by omega)).mono ?_
  rintro e w3 ⟨r2, rfl, -, c1, b2⟩
  have U := hide (U.out.step b2)
  have V := hide (V.out.step b2)
  have S := hide (S.out.step b2)
  have R2 := hide c1
  have B := hide (Below.step B.out B.out.size b2)
  clear c1 b2
  go_wp2_with fail
  refine (mul_n U.out V.out (by omega) (by omega)).mono ?_
  rintro e w4 ⟨r3, rfl, -, c1, b2⟩
  have U := hide (U.out.step b2)
  have V := hide (V.out.step b2)
  have S := hide (S.out.step b2)
  have R2 := hide (R2.out.step b2)
  have R3 := hide c1
  have B := hide (Below.step B.out B.out.size b2)
  clear c1 b2
  go_wp2_with fail
  refine (mul_n U.out S.out (by omega) (by omega)).mono ?_
  rintro e w5 ⟨r4, rfl, -, c1, b2⟩
  have U := hide (U.out.step b2)
  have V := hide (V.out.step b2)
  have S := hide (S.out.step b2)
  have R2 := hide (R2.out.step b2)
  have R3 := hide (R3.out.step b2)
  have R4 := hide c1
  have B := hide (Below.step B.out B.out.size b2)
  clear c1 b2
  go_wp2_with fail
  refine (add_n (K := 2097152) R3.out.nw R4.out.nw (by omega) (by omega) (by omega) (by omega)).mono ?_
  rintro e w6 ⟨r5, rfl, -, c1, b2⟩
  have U := hide (U.out.step b2)
  have V := hide (V.out.step b2)
  have S := hide (S.out.step b2)
  have R2 := hide (R2.out.step b2)
  have R5 := hide c1
  have B := hide (Below.step B.out B.out.size b2)
  clear c1 b2
  go_wp2_with fail
  refine (same_c R2.out R5.out (Nat.mul_add x y z)).mono ?_
  rintro e w7 ⟨rfl, b2⟩
  have U := hide (U.out.step b2)
  have V := hide (V.out.step b2)
  have S := hide (S.out.step b2)
  have B := hide (Below.step B.out B.out.size b2)
  clear b2
  go_wp2_with fail
  refine (mul_n U.out V.out (by omega) (by omega)).mono ?_
  rintro e w8 ⟨r6, rfl, -, c1, b2⟩
  have U := hide (U.out.step b2)
  have V := hide (V.out.step b2)
  have S := hide (S.out.step b2)
  have R6 := hide c1
  have B := hide (Below.step B.out B.out.size b2)
  clear c1 b2
  go_wp2_with fail
  refine (mul_n V.out U.out (by omega) (by omega)).mono ?_
  rintro e w9 ⟨r7, rfl, -, c1, b2⟩
  have U := hide (U.out.step b2)
  have V := hide (V.out.step b2)
  have S := hide (S.out.step b2)
  have R6 := hide (R6.out.step b2)
  have R7 := hide c1
  have B := hide (Below.step B.out B.out.size b2)
  clear c1 b2
  go_wp2_with fail
  refine (same_c R6.out R7.out (Nat.mul_comm x y)).mono ?_
  rintro e w10 ⟨rfl, b2⟩
  have U := hide (U.out.step b2)
  have V := hide (V.out.step b2)
  have S := hide (S.out.step b2)
  have B := hide (Below.step B.out B.out.size b2)
  clear b2
  go_wp2_with fail
  refine (mul_n U.out V.out (by omega) (by omega)).mono ?_
  rintro e w11 ⟨r8, rfl, -, c1, b2⟩
  have U := hide (U.out.step b2)
  have V := hide (V.out.step b2)
  have S := hide (S.out.step b2)
  have R8 := hide c1
  have B := hide (Below.step B.out B.out.size b2)
  clear c1 b2
  go_wp2_with fail
  refine (mul_n R8.out.nw S.out (by omega) (by omega)).mono ?_
  rintro e w12 ⟨r9, rfl, -, c1, b2⟩
  have U := hide (U.out.step b2)
  have V := hide (V.out.step b2)
  have S := hide (S.out.step b2)
  have R9 := hide c1
  have B := hide (Below.step B.out B.out.size b2)
  clear c1 b2
  go_wp2_with fail
  refine (mul_n V.out S.out (by omega) (by omega)).mono ?_
  rintro e w13 ⟨r10, rfl, -, c1, b2⟩
  have U := hide (U.out.step b2)
  have R9 := hide (R9.out.step b2)
  have R10 := hide c1
  have B := hide (Below.step B.out B.out.size b2)
  clear c1 b2
  go_wp2_with fail
  refine (mul_n U.out R10.out.nw (by omega) (by omega)).mono ?_
  rintro e w14 ⟨r11, rfl, -, c1, b2⟩
  have R9 := hide (R9.out.step b2)
  have R11 := hide c1
  have B := hide (Below.step B.out B.out.size b2)
  clear c1 b2
  go_wp2_with fail
  refine (same_c R9.out R11.out (Nat.mul_assoc x y z)).mono ?_
  rintro e w15 ⟨rfl, b2⟩
  have B := hide (Below.step B.out B.out.size b2)
  clear b2
  go_wp2_with fail
  go_ret
  exact ⟨rfl, B.out⟩

theorem squares (x y : Nat) (h : y ≤ x) : (x + y) * (x - y) = x * x - y * y := by
  obtain ⟨d, rfl⟩ := Nat.exists_eq_add_of_le h
  have e1 : y + d - y = d := by omega
  have e2 : (y + d) * (y + d) = y * y + (y + d + y) * d := by
    simp only [Nat.add_mul, Nat.mul_add, Nat.mul_comm d y]
    omega
  rw [e1, e2]
  omega

set_option maxHeartbeats 4000000 in
theorem squares_true (w : World) (u v : Value) (x y : Nat) (hu : Nw w u x 17592186043904) (hv : Nw w v y 17592186043904) :
    Calls Tryd.prog 14 #[u, v] w fun e w' => e = .returned (.bool true) ∧ Below w.heap.size w w' := by
  have U := hide hu
  have V := hide hv
  clear hu hv
  by_cases hle : y ≤ x
  · have hle2 := hide (Nat.mul_le_mul hle hle)
    have LE := hide hle
    clear hle
    go_enter Tryd.func14, Tryd.ntmps14
    go_wp2_with fail
    refine (speaks_true w).mono ?_
    rintro e w1 ⟨rfl, b1⟩
    have U := hide (U.out.step b1)
    have V := hide (V.out.step b1)
    have B := hide b1
    clear b1
    go_wp2_with fail
    refine (sub_n U.out V.out (by omega) (by omega) LE.out).mono ?_
    rintro e w2 ⟨r1, rfl, -, c1, b2⟩
    have U := hide (U.out.step b2)
    have V := hide (V.out.step b2)
    have R1 := hide c1
    have B := hide (Below.step B.out B.out.size b2)
    clear c1 b2
    go_wp2_with fail
    refine (mul_n U.out U.out (by omega) (by omega)).mono ?_
    rintro e w3 ⟨r2, rfl, -, c1, b2⟩
    have U := hide (U.out.step b2)
    have V := hide (V.out.step b2)
    have R1 := hide (R1.out.step b2)
    have R2 := hide c1
    have B := hide (Below.step B.out B.out.size b2)
    clear c1 b2
    go_wp2_with fail
    refine (mul_n V.out V.out (by omega) (by omega)).mono ?_
    rintro e w4 ⟨r3, rfl, -, c1, b2⟩
    have U := hide (U.out.step b2)
    have V := hide (V.out.step b2)
    have R1 := hide (R1.out.step b2)
    have R2 := hide (R2.out.step b2)
    have R3 := hide c1
    have B := hide (Below.step B.out B.out.size b2)
    clear c1 b2
    go_wp2_with fail
    refine (sub_n R2.out.nw R3.out.nw (by omega) (by omega) hle2.out).mono ?_
    rintro e w5 ⟨r4, rfl, -, c1, b2⟩
    have U := hide (U.out.step b2)
    have V := hide (V.out.step b2)
    have R1 := hide (R1.out.step b2)
    have R4 := hide c1
    have B := hide (Below.step B.out B.out.size b2)
    clear c1 b2
    go_wp2_with fail
    refine (add_n (K := 17592186043904) U.out V.out (by omega) (by omega) (by omega) (by omega)).mono ?_
    rintro e w6 ⟨r5, rfl, -, c1, b2⟩
    have R1 := hide (R1.out.step b2)
    have R4 := hide (R4.out.step b2)
    have R5 := hide c1
    have B := hide (Below.step B.out B.out.size b2)
    clear c1 b2
    go_wp2_with fail
    refine (mul_n R5.out.nw R1.out.nw (by omega) (by omega)).mono ?_
    rintro e w7 ⟨r6, rfl, -, c1, b2⟩
    have R4 := hide (R4.out.step b2)
    have R6 := hide c1
    have B := hide (Below.step B.out B.out.size b2)
    clear c1 b2
    go_wp2_with fail
    refine (same_c R6.out R4.out (squares x y LE.out)).mono ?_
    rintro e w8 ⟨rfl, b2⟩
    have B := hide (Below.step B.out B.out.size b2)
    clear b2
    go_wp2_with fail
    go_ret
    exact ⟨rfl, B.out⟩
  · have LT := hide (Nat.lt_of_not_le hle)
    have hc : cmpN x y = -1 := cmpN_lt LT.out
    clear hle
    go_enter Tryd.func14, Tryd.ntmps14
    go_wp2_with fail
    refine (speaks_true w).mono ?_
    rintro e w1 ⟨rfl, b1⟩
    have U := hide (U.out.step b1)
    have V := hide (V.out.step b1)
    have B := hide b1
    clear b1
    go_wp2_with fail
    refine (sub_less U.out V.out (by omega) (by omega) LT.out).mono ?_
    rintro e w2 ⟨rfl, b2⟩
    have U := hide (U.out.step b2)
    have V := hide (V.out.step b2)
    have B := hide (Below.step B.out B.out.size b2)
    clear b2
    go_wp2_with fail
    refine (cmp_n U.out V.out (by omega) (by omega)).mono ?_
    rw [hc]
    rintro e w3 ⟨rfl, rfl⟩
    go_wp2_with fail
    go_ret
    exact ⟨rfl, B.out⟩
end Go.Proofs.YtpeopcafafonkaaDoor
