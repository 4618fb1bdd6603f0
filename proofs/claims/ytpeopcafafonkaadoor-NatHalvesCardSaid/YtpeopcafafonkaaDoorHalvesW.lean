/-
  The walk of NatHalves: true.
-/
import Derived.Test.YtpeopcafafonkaaDoorBackW
import Derived.Test.YtpeopcafafonkaaDoorShiftsW
namespace Go.Proofs.YtpeopcafafonkaaDoor
open Go.RowKit Go.Proofs.YtpeopcafafonkaaDoor.Num
set_option linter.unusedVariables false
set_option maxRecDepth 100000


theorem one_lit (w : World) : Nw (w.alloc (.cells #[.int .u64 1] 53)) (.slice (some ⟨w.heap.size, 0, none⟩) 1 1) 1 1 :=
  ⟨_, 1, 1, [1], rfl, Rd.lit1 .u64 w 53 1, Dg.cons (by unfold Q; omega) Dg.nil, Nat.le_refl _, by simp [maxLen], by simp [vl], Nat.le_refl _⟩
theorem shl_one {w : World} {sh K : Nat} (hsh : sh ≤ 65536) (hK : 1 + sh / 64 + 1 ≤ K) :
    Calls Tryd.prog 41 #[.slice (some ⟨w.heap.size, 0, none⟩) 1 1, .int .i64 (sh : Int)] (w.alloc (.cells #[.int .u64 1] 53)) fun e w' => ∃ r, e = .returned (.tuple #[r, .int .i64 0]) ∧ Cw w' r (2 ^ sh) K ∧ Below w.heap.size w w' := by
  have ha : Below w.heap.size w (w.alloc (.cells #[.int .u64 1] 53)) := (Below.refl _ _).alloc (Nat.le_refl _) _
  refine (nshl_ok (one_lit w) (by omega) hsh hK).mono fun e w' ⟨r, he, _, hc, hb⟩ => ⟨r, he, ?_, ha.trans (hb.mono ha.size)⟩
  rwa [Nat.mul_one] at hc
theorem bits_le {X b n : Nat} (h : IsBits X b) (hX : X < 2 ^ n) : b ≤ n := by
  rcases Nat.lt_or_ge n b with h1 | h1
  · have h2 := h.2 (by omega)
    have h3 : 2 ^ n ≤ 2 ^ (b - 1) := Nat.pow_le_pow_right (by omega) (by omega)
    omega
  · exact h1

set_option maxHeartbeats 8000000 in
theorem halves_true {p : Prop} (w : World) (u : Value) (z : Int) (x : Nat) (hu : Nw w u x 17592186043904) (hz : p) :
    Calls Tryd.prog 12 #[u, .int .i64 z] w fun e w' => e = .returned (.bool true) ∧ Below w.heap.size w w' := by
  obtain ⟨xs, hx, A, n, c, rfl, rx, dx, h1, h2, -⟩ := hu.lw
  clear hu hz
  by_cases hg : 90 < n ∨ z < 0 ∨ 6000 < z
  · have tails : (decide ((90 : Int) < (n : Int)) = true) ∨ (decide ((90 : Int) < (n : Int)) = false ∧ decide (z < 0) = true) ∨ (decide ((90 : Int) < (n : Int)) = false ∧ decide (z < 0) = false ∧ decide (6000 < z) = true) := by
      by_cases a1 : 90 < n
      · exact .inl (decide_eq_true (by omega))
      · by_cases a2 : z < 0
        · exact .inr (.inl ⟨decide_eq_false (by omega), decide_eq_true a2⟩)
        · exact .inr (.inr ⟨decide_eq_false (by omega), decide_eq_false a2, decide_eq_true (by omega)⟩)
    clear rx dx h1 h2 hg hx
    rcases tails with t1 | ⟨t1, t2⟩ | ⟨t1, t2, t3⟩
    all_goals
      go_enter Tryd.func12, Tryd.ntmps12
      go_wp2_with fail
      refine (speaks_true w).mono ?_
      rintro e w1 ⟨rfl, b⟩
      go_wp2_with fail
      go_ret
      exact ⟨rfl, b⟩
  · have hn : n ≤ 90 := by omega
    have t1 : decide ((90 : Int) < (n : Int)) = false := decide_eq_false (by omega)
    obtain ⟨sh, rfl⟩ : ∃ sh : Nat, z = (sh : Int) := ⟨z.toNat, by omega⟩
    have hs : sh ≤ 6000 := by omega
    have t2 : decide ((sh : Int) < 0) = false := decide_eq_false (by omega)
    have t3 : decide ((6000 : Int) < (sh : Int)) = false := decide_eq_false (by omega)
    have U : Hid (Nw w (.slice A n c) x 90) := hide (by rw [← hx]; exact Lw.nw ⟨A, n, c, rfl, rx, dx, h1, h2, hn⟩)
    have hp : Hid (0 < 2 ^ sh) := hide (Nat.pow_pos (by omega))
    obtain ⟨bb, hbb⟩ := isBits_ex (x % 2 ^ sh)
    have BB := hide hbb
    have hble : bb ≤ sh := bits_le hbb (Nat.mod_lt _ hp.out)
    have t4 : decide ((bb : Int) ≤ (sh : Int)) = true := decide_eq_true (by omega)
    have HCX : Hid (cmpN (2 ^ sh * (x / 2 ^ sh) + x % 2 ^ sh) x = 0) := hide (by rw [Nat.div_add_mod]; exact cmpN_eq x)
    clear rx dx h1 h2 hg hx hbb
    go_enter Tryd.func12, Tryd.ntmps12
    go_wp2_with fail
    refine (speaks_true w).mono ?_
    rintro e w1 ⟨rfl, b⟩
    have U := hide (U.out.step b)
    have B := hide b
    clear b
    go_wp2_with fail
    refine (nshr_ok U.out (by omega) (by omega)).mono ?_
    rintro e w2 ⟨tv, rfl, -, ct, b⟩
    have U := hide (U.out.step b)
    have B := hide (Below.step B.out B.out.size b)
    have T := hide ct
    clear b ct
    go_wp2_with fail
    refine (nshl_ok (K := 190) T.out.nw (by omega) (by omega) (by omega)).mono ?_
    rintro e w3 ⟨bv, rfl, -, cb, b⟩
    have U := hide (U.out.step b)
    have B := hide (Below.step B.out B.out.size b)
    have BK := hide cb
    clear b cb
    go_wp2_with fail
    refine (shl_one (K := 100) (by omega) (by omega)).mono ?_
    rintro e w4 ⟨ov, rfl, co, b⟩
    have U := hide (U.out.step b)
    have BK := hide (BK.out.step b)
    have B := hide (Below.step B.out B.out.size b)
    have ONE := hide co
    clear b co
    go_wp2_with fail
    refine (ndivmod U.out ONE.out.nw (by omega) hp.out).mono ?_
    rintro e w5 ⟨qv, rv, rfl, -, -, -, -, cr, b⟩
    have U := hide (U.out.step b)
    have BK := hide (BK.out.step b)
    have B := hide (Below.step B.out B.out.size b)
    have R := hide cr
    clear b cr
    go_wp2_with fail
    refine (add_n (K := 190) BK.out.nw R.out.nw (by omega) (by omega) (by omega) (by omega)).mono ?_
    rintro e w6 ⟨sv, rfl, -, cs, b⟩
    have U := hide (U.out.step b)
    have R := hide (R.out.step b)
    have B := hide (Below.step B.out B.out.size b)
    have S := hide cs
    clear b cs
    go_wp2_with fail
    refine (cmp_n S.out.nw U.out (by omega) (by omega)).mono ?_
    rw [HCX.out]
    rintro e w_ ⟨rfl, rfl⟩
    go_wp2_with fail
    refine (nbits_s R.out.nw BB.out (by omega)).mono ?_
    rintro e w_ ⟨rfl, rfl⟩
    go_wp2_with fail
    go_ret
    exact ⟨rfl, B.out⟩
end Go.Proofs.YtpeopcafafonkaaDoor
