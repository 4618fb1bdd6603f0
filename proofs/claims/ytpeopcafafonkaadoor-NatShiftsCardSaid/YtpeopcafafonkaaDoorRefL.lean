/-
  The document's own answer: powers of two; how many bits.
-/
import Derived.Test.YtpeopcafafonkaaDoorRefI
import Derived.Test.YtpeopcafafonkaaDoorShl
import Derived.WalkSmall
namespace Go.Proofs.YtpeopcafafonkaaDoor
open Go.RowKit Go.Proofs.YtpeopcafafonkaaDoor.Num
set_option linter.unusedVariables false
set_option maxRecDepth 100000

theorem two_lt (a : Nat) : 2 ^ a < 10000 ^ (a + 1) :=
  Nat.lt_of_lt_of_le (Nat.pow_lt_pow_right (by omega) (Nat.lt_succ_self a)) (Nat.pow_le_pow_left (by omega) _)

def PwRel (w : World) (n : Nat) (nv ov bv : Value) (wr : World) : Prop :=
  ∃ m f e : Nat, nv = .int .i64 (m : Int) ∧ m ≤ n ∧ Hid (f + e * m = n) ∧ f ≤ n ∧ e ≤ 2 * n + 1 ∧ Iw wr ov (2 ^ f) (f + 1) ∧ Iw wr bv (2 ^ e) (e + 1) ∧ Below w.heap.size w wr

set_option maxHeartbeats 2000000 in
theorem rpower (w : World) (n : Nat) (hn : n ≤ 1000000000) :
    Calls Tryd.prog 45 #[.int .i64 (n : Int)] w fun e w' => ∃ r, e = .returned r ∧ Iw w' r (2 ^ n) (n + 1) ∧ Below w.heap.size w w' := by
  have a1 : Below w.heap.size w (w.alloc (.cells #[.int .i64 1] 3)) := (Below.refl _ _).alloc (Nat.le_refl _) _
  have a2 : Below w.heap.size w ((w.alloc (.cells #[.int .i64 1] 3)).alloc (.cells #[.int .i64 2] 3)) := a1.alloc (by simp) _
  have i1 : Iw (w.alloc (.cells #[.int .i64 1] 3)) (.slice (some ⟨w.heap.size, 0, none⟩) 1 1) 1 1 := iw_one w 3 (x := 1) (by omega)
  have i2 : Iw ((w.alloc (.cells #[.int .i64 1] 3)).alloc (.cells #[.int .i64 2] 3)) (.slice (some ⟨w.heap.size + 1, 0, none⟩) 1 1) 2 1 := by
    have h := iw_one (w.alloc (.cells #[.int .i64 1] 3)) 3 (x := 2) (by omega)
    simpa using h
  have i1' := i1.step ((Below.refl _ _).alloc (Nat.le_refl _) (.cells #[.int .i64 2] 3))
  have i2' : Iw ((w.alloc (.cells #[.int .i64 1] 3)).alloc (.cells #[.int .i64 2] 3)) (.slice (some ⟨w.heap.size + 1, 0, none⟩) 1 1) (2 ^ 1) (1 + 1) := by
    obtain ⟨A, n, c, xs, h1, h2, h3, h4, h5⟩ := i2
    exact ⟨A, n, c, xs, h1, h2, h3, h4, by omega⟩
  have start : PwRel w n (.int .i64 (n : Int)) (.slice (some ⟨w.heap.size, 0, none⟩) 1 1) (.slice (some ⟨w.heap.size + 1, 0, none⟩) 1 1) ((w.alloc (.cells #[.int .i64 1] 3)).alloc (.cells #[.int .i64 2] 3)) :=
    ⟨n, 0, 1, rfl, Nat.le_refl _, hide (by omega), by omega, by omega, i1', i2', a2⟩
  clear i1 i2 i1' i2' a1 a2
  go_enter Tryd.func45, Tryd.ntmps45
  go_wp2_with fail
  go_loopw [0, 3, 4] (fun nv ov bv wr => PwRel w n nv ov bv wr) (fun nv _ _ _ => (intOf nv).toNat)
  case atStart => exact start
  case round =>
    obtain ⟨m, f, e, rfl, hm, hsum, hf, he, io, ib, hbel⟩ := hrel
    clear start
    by_cases h0 : 0 < m
    · obtain ⟨bit, hbit⟩ : ∃ bit, m % 2 = bit := ⟨_, rfl⟩
      obtain ⟨q, hq⟩ : ∃ q, m / 2 = q := ⟨_, rfl⟩
      have er : Int.tmod (m : Int) 2 = (bit : Int) := by rw [← hbit]; exact (Int.ofNat_tmod m 2).symm
      have eq : Int.tdiv (m : Int) 2 = (q : Int) := by rw [← hq]; exact (Int.ofNat_tdiv m 2).symm
      have hen : e ≤ n := by
        have h1 := hsum.out
        have h2 : e * 1 ≤ e * m := Nat.mul_le_mul_left _ h0
        omega
      have hfe : f + e ≤ n := by
        have h1 := hsum.out
        have h2 : e * 1 ≤ e * m := Nat.mul_le_mul_left _ h0
        omega
      have hsq : ∀ W, Iw W u4 (2 ^ e) (e + 1) → Calls Tryd.prog 35 #[u4, u4] W (fun e1 w' => ∃ r, e1 = .returned r ∧ Iw w' r (2 ^ (e + e)) (e + e + 1) ∧ Below W.heap.size W w') := by
        intro W h
        refine (imul h h (by omega) (by omega)).mono fun e1 w' ⟨r, h1, ho, _, hb⟩ => ⟨r, h1, ?_, hb⟩
        rw [← Nat.pow_add] at ho
        exact (Ic.of ho (two_lt _)).iw
      have Hsq := hide hsq
      have qm : q < m := by omega
      by_cases hb1 : bit = 1
      · subst hb1
        have hmul : Calls Tryd.prog 35 #[u3, u4] wr (fun e1 w' => ∃ r, e1 = .returned r ∧ Iw w' r (2 ^ (f + e)) (f + e + 1) ∧ Below wr.heap.size wr w') := by
          refine (imul io ib (by omega) (by omega)).mono fun e1 w' ⟨r, h1, ho, _, hb⟩ => ⟨r, h1, ?_, hb⟩
          rw [← Nat.pow_add] at ho
          exact (Ic.of ho (two_lt _)).iw
        have hs2 : Hid (f + e + (e + e) * q = n) := hide (by
          rw [← hsum.out, Nat.add_assoc]
          congr 1
          have : m = 1 + 2 * q := by omega
          rw [this, Nat.mul_add, Nat.mul_one, ← Nat.mul_assoc, Nat.mul_two])
        have IB := hide ib
        have BEL := hide hbel
        have Hmul := hide hmul
        clear hmul io ib hbel hsum hsq hbit hq
        go_wp2_with fail
        refine Hmul.out.mono ?_
        rintro e1 w1 ⟨r1, rfl, ir1, b1⟩
        have IR := hide ir1
        have IB := hide (IB.out.step b1)
        have BEL := hide (BEL.out.trans (b1.mono BEL.out.size))
        clear ir1 b1 Hmul
        go_wp2_with fail
        refine (Hsq.out _ IB.out).mono ?_
        rintro e1 w2 ⟨r2, rfl, ir2, b2⟩
        have fin : PwRel w n (.int .i64 (q : Int)) r1 r2 w2 := ⟨q, f + e, e + e, rfl, by omega, hs2, by omega, by omega, IR.out.step b2, ir2, BEL.out.trans (b2.mono BEL.out.size)⟩
        clear ir2 b2 IR IB BEL Hsq hs2
        go_wp2_with fail
        go_roundw
        case rel => exact fin
        case measure => simp [intOf]; omega
      · obtain rfl : bit = 0 := by omega
        have hs2 : Hid (f + (e + e) * q = n) := hide (by
          rw [← hsum.out]
          congr 1
          have : m = 2 * q := by omega
          rw [this, ← Nat.mul_assoc, Nat.mul_two])
        have IB := hide ib
        have IOh := hide io
        have BEL := hide hbel
        clear io ib hbel hsum hsq hbit hq hb1
        go_wp2_with fail
        refine (Hsq.out _ IB.out).mono ?_
        rintro e1 w2 ⟨r2, rfl, ir2, b2⟩
        have fin : PwRel w n (.int .i64 (q : Int)) u3 r2 w2 := ⟨q, f, e + e, rfl, by omega, hs2, by omega, by omega, IOh.out.step b2, ir2, BEL.out.trans (b2.mono BEL.out.size)⟩
        clear ir2 b2 IOh IB BEL Hsq hs2
        go_wp2_with fail
        go_roundw
        case rel => exact fin
        case measure => simp [intOf]; omega
    · obtain rfl : m = 0 := by omega
      have hfn := hsum.out
      rw [Nat.mul_zero, Nat.add_zero] at hfn
      rw [hfn] at io
      clear hsum hfn ib
      go_wp2_with fail
      go_ret
      exact ⟨_, rfl, io, hbel⟩

/-! ### How many bits -/
def RbOut (n : Nat) (xs : List Nat) (bv iv : Value) : Prop :=
  ∃ i b : Nat, i ≤ n ∧ iv = .int .i64 (i : Int) ∧ bv = .int .i64 (b : Int) ∧ Hid (IsBits (vl Q (xs.take i)) b)
def RbIn (V i x : Nat) (bv kv : Value) : Prop :=
  ∃ k b : Nat, k ≤ 64 ∧ kv = .int .i64 (k : Int) ∧ bv = .int .i64 (b : Int) ∧ Hid (IsBits (V + Q ^ i * (x % 2 ^ k)) b)

theorem mod_bit (x k : Nat) : x % 2 ^ (k + 1) = x % 2 ^ k + 2 ^ k * (x / 2 ^ k % 2) := by
  rw [Nat.pow_succ, Nat.mod_mul]
theorem bits_up {V i x k : Nat} (hV : V < Q ^ i) (h : x / 2 ^ k % 2 = 1) : IsBits (V + Q ^ i * (x % 2 ^ (k + 1))) (i * 64 + k + 1) := by
  have hp : Q ^ i = 2 ^ (i * 64) := by rw [show Q = 2 ^ 64 from rfl, ← Nat.pow_mul, Nat.mul_comm]
  rw [mod_bit, h, Nat.mul_one, hp]
  rw [hp] at hV
  have h1 : x % 2 ^ k < 2 ^ k := Nat.mod_lt _ (Nat.pow_pos (by omega))
  refine ⟨?_, fun _ => ?_⟩
  · have h2 : 2 ^ (i * 64) * (x % 2 ^ k + 1) ≤ 2 ^ (i * 64) * 2 ^ k := Nat.mul_le_mul_left _ h1
    rw [Nat.mul_add, Nat.mul_one] at h2
    rw [Nat.pow_succ, Nat.pow_add, Nat.mul_add]
    omega
  · rw [Nat.add_sub_cancel, Nat.pow_add, Nat.mul_add]
    omega

set_option maxHeartbeats 2000000 in
theorem rbits_any (B : Nat) (A : Option Addr) (n c : Nat) (xs : List Nat) (w : World) (hx : Rd .u64 w B A n xs) (dx : Dg Q xs) (hn : n ≤ 1000000000000) :
    Calls Tryd.prog 44 #[.slice A n c] w fun e w' => ∃ b : Nat, e = .returned (.int .i64 (b : Int)) ∧ IsBits (vl Q xs) b ∧ w = w' := by
  have Hx := hide hx
  have Dx := hide dx
  clear hx dx
  go_enter Tryd.func44, Tryd.ntmps44
  go_wp2_with fail
  go_loop [3, 4] (fun bv iv => RbOut n xs bv iv) (fun _ iv => n - (intOf iv).toNat)
  case atStart => exact ⟨0, 0, Nat.zero_le _, rfl, rfl, hide IsBits.zero⟩
  case round =>
    obtain ⟨i, b, hi, rfl, rfl, hb⟩ := hrel
    by_cases hlt : i < n
    · obtain ⟨x, ex⟩ : ∃ x, Hid (xs.getD i 0 = x) := ⟨_, hide rfl⟩
      have bx : x < Q := by rw [← ex.out]; exact Dx.out.getD Q_pos i
      obtain ⟨blk, o, rfl, _, hcx⟩ := Hx.out.at_ hlt
      rw [ex.out] at hcx
      obtain ⟨V, hV⟩ : ∃ V, Hid (vl Q (xs.take i) = V) := ⟨_, hide rfl⟩
      have hVQ : Hid (V < Q ^ i) := hide (by
        rw [← hV.out]
        have h := vl_lt (Dx.out.take i)
        exact Nat.lt_of_lt_of_le h (Nat.pow_le_pow_right Q_pos (by rw [List.length_take]; omega)))
      rw [hV.out] at hb
      have st : RbIn V i x (.int .i64 (b : Int)) (.int .i64 0) := ⟨0, b, by omega, rfl, rfl, hide (by rw [Nat.pow_zero, Nat.mod_one, Nat.mul_zero, Nat.add_zero]; exact hb.out)⟩
      have i1 : (i : Int) < (n : Int) := by omega
      have BX := hide bx
      clear hb bx
      go_wp2_with fail
      go_loop [3, 5] (fun bv kv => RbIn V i x bv kv) (fun _ kv => 64 - (intOf kv).toNat)
      case atStart => exact st
      case round =>
        obtain ⟨k, b, hk, rfl, rfl, hb⟩ := hrel
        clear st
        by_cases hk4 : k < 64
        · obtain ⟨y, hy⟩ : ∃ y, x / 2 ^ k = y := ⟨_, rfl⟩
          have e1 : (x : Int) / 2 ^ k = (y : Int) := by rw [shrN, hy]
          obtain ⟨bit, hbit⟩ : ∃ bit, y % 2 = bit := ⟨_, rfl⟩
          have hyx : y ≤ x := by rw [← hy]; exact Nat.div_le_self _ _
          have e2 : bits .and .u64 (y : Int) 1 = (bit : Int) := by
            rw [and_one_u64 (y : Int) (by omega) (by have := BX.out; unfold Q at this; omega)]
            omega
          by_cases h1 : bit = 1
          · subst h1
            have hb2 : Hid (IsBits (V + Q ^ i * (x % 2 ^ (k + 1))) (i * 64 + k + 1)) := hide (bits_up hVQ.out (by rw [hy]; exact hbit))
            have fin : RbIn V i x (.int .i64 ((i : Int) * 64 + (k : Int) + 1)) (.int .i64 ((k + 1 : Nat) : Int)) := ⟨k + 1, i * 64 + k + 1, by omega, rfl, by congr 1, hb2⟩
            have Fin := hide fin
            clear hb hb2 hy hbit hyx fin
            go_wp2_with fail
            go_round
            case rel => exact Fin.out
            case measure => simp [intOf]; omega
          · obtain rfl : bit = 0 := by omega
            have hb2 : Hid (IsBits (V + Q ^ i * (x % 2 ^ (k + 1))) b) := hide (by
              rw [mod_bit, hy, hbit, Nat.mul_zero, Nat.add_zero]
              exact hb.out)
            have fin : RbIn V i x (.int .i64 (b : Int)) (.int .i64 ((k + 1 : Nat) : Int)) := ⟨k + 1, b, by omega, rfl, rfl, hb2⟩
            have Fin := hide fin
            clear hb hb2 hy hbit hyx fin h1
            go_wp2_with fail
            go_round
            case rel => exact Fin.out
            case measure => simp [intOf]; omega
        · obtain rfl : k = 64 := by omega
          have hb3 := hb.out
          rw [Nat.mod_eq_of_lt (show x < 2 ^ 64 from BX.out), ← hV.out, ← ex.out, ← vl_take_succ] at hb3
          have fin : RbOut n xs (.int .i64 (b : Int)) (.int .i64 ((i + 1 : Nat) : Int)) := ⟨i + 1, b, by omega, rfl, rfl, hide hb3⟩
          have Fin := hide fin
          clear hb hb3 fin
          go_wp2_with fail
          go_round
          case rel => exact Fin.out
          case measure => simp [intOf]; omega
    · obtain rfl : i = n := by omega
      have e := hb.out
      rw [List.take_of_length_le (by have := Hx.out.1; omega)] at e
      have E := hide e
      clear hb e
      go_wp2_with fail
      go_ret
      exact ⟨b, rfl, E.out, rfl⟩
end Go.Proofs.YtpeopcafafonkaaDoor
