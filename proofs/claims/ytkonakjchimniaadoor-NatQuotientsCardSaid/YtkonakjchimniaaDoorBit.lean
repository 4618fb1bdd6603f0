/-
  How many bits a number has.
-/
import Derived.Test.YtkonakjchimniaaDoorShift
namespace Go.Proofs.YtkonakjchimniaaDoor
open Go.RowKit Go.Proofs.YtkonakjchimniaaDoor.Num
set_option linter.unusedVariables false
set_option maxRecDepth 100000

/-! ### How many bits -/
/-- The number X has b bits. -/
def IsBits (X b : Nat) : Prop := X < 2 ^ b ∧ (b ≠ 0 → 2 ^ (b - 1) ≤ X)
theorem IsBits.zero : IsBits 0 0 := ⟨by omega, fun h => absurd rfl h⟩
theorem IsBits.one {X b c : Nat} (h : IsBits X b) (k : IsBits X c) : b = c := by
  rcases Nat.lt_trichotomy b c with hlt | h' | hlt
  · have h1 := k.2 (by omega)
    have h2 : 2 ^ b ≤ 2 ^ (c - 1) := Nat.pow_le_pow_right (by omega) (by omega)
    have := h.1
    omega
  · exact h'
  · have h1 := h.2 (by omega)
    have h2 : 2 ^ c ≤ 2 ^ (b - 1) := Nat.pow_le_pow_right (by omega) (by omega)
    have := k.1
    omega
theorem isBits_top {m t : Nat} {zs : List Nat} (hz : zs.length = m + 1) (dz : Dg Q zs) (ht : zs.getD m 0 = t) (h0 : t ≠ 0) : IsBits (vl Q zs) (m * 64 + Lib.bitLen t) := by
  have hq : Q = 2 ^ 64 := rfl
  have htQ : t < Q := by rw [← ht]; exact dz.getD Q_pos m
  obtain ⟨h1, h2, h3⟩ := Lib.bitLenAux_bounds 64 t (by rw [← hq]; exact htQ) h0
  have e : Lib.bitLen t = Lib.bitLenAux 64 t := rfl
  rw [← e] at h1 h2 h3
  have hv : vl Q zs = vl Q (zs.take m) + Q ^ m * t := by
    have h := vl_take_succ Q zs m
    rwa [List.take_of_length_le (by omega), ht] at h
  have hl : vl Q (zs.take m) < Q ^ m := by
    have h := vl_lt (dz.take m)
    exact Nat.lt_of_lt_of_le h (Nat.pow_le_pow_right Q_pos (by rw [List.length_take]; omega))
  have hp : Q ^ m = 2 ^ (m * 64) := by rw [hq, ← Nat.pow_mul, Nat.mul_comm]
  rw [hp] at hl hv
  generalize Lib.bitLen t = b at *
  refine ⟨?_, fun _ => ?_⟩
  · rw [Nat.pow_add]
    have h4 : 2 ^ (m * 64) * (t + 1) ≤ 2 ^ (m * 64) * 2 ^ b := Nat.mul_le_mul_left _ h3
    rw [Nat.mul_add] at h4
    omega
  · rw [show m * 64 + b - 1 = m * 64 + (b - 1) by omega, Nat.pow_add]
    have h4 : 2 ^ (m * 64) * 2 ^ (b - 1) ≤ 2 ^ (m * 64) * t := Nat.mul_le_mul_left _ h2
    omega
set_option maxHeartbeats 2000000 in
theorem nbits_n {w : World} {u : Value} {x L : Nat} (hu : Nw w u x L) (hL : L ≤ 17592186044000) :
    Calls Tryd.prog 74 #[u] w fun e w' => ∃ b : Nat, e = .returned (.int .i64 (b : Int)) ∧ IsBits x b ∧ w = w' := by
  obtain ⟨A, n, c, xs, rfl, hx, dx, hnc, hc, rfl, hn⟩ := hu
  obtain ⟨A', c', hpc, hcm, hx', -, cx⟩ := clip_get _ A n c xs w hx hnc hc
  have lx := tz_length_le xs
  have hx1 := hx.1
  have dt := tz_dg dx
  have hidem := tz_idem xs
  rw [← tz_vl]
  generalize tz xs = zs at *
  have hzl := hx'.1
  rcases Nat.eq_zero_or_pos zs.length with h0 | h0
  · have hz : zs = [] := List.eq_nil_of_length_eq_zero h0
    subst hz
    rw [List.length_nil] at cx
    clear hx hx' dx dt
    go_enter Tryd.func74, Tryd.ntmps74
    go_wp2_with fail
    refine cx.mono ?_
    rintro e w_ ⟨rfl, rfl⟩
    go_wp2_with fail
    go_ret
    exact ⟨0, rfl, IsBits.zero, rfl⟩
  · obtain ⟨m, hm⟩ : ∃ m, zs.length = m + 1 := ⟨zs.length - 1, by omega⟩
    obtain ⟨t, ht⟩ : ∃ t, zs.getD m 0 = t := ⟨_, rfl⟩
    have ht0 : t ≠ 0 := by
      intro h
      have h1 := tz_step_zero zs m (by omega) (by rw [ht, h])
      rw [List.take_of_length_le (by omega), hidem] at h1
      have h2 := congrArg List.length h1
      have h3 := tz_length_le (zs.take m)
      rw [List.length_take] at h3
      omega
    have hb := isBits_top hm dt ht ht0
    have htQ : t < Q := by rw [← ht]; exact dt.getD Q_pos m
    obtain ⟨b, o, hA, _, hcell⟩ := hx'.at_ (show m < zs.length by omega)
    subst hA
    rw [ht] at hcell
    rw [hm] at cx
    have hlen := Tryd.bits_Len64 (t : Int) w (by omega) (by unfold Q at htQ; omega)
    rw [Int.toNat_natCast] at hlen
    have hlb : Lib.bitLen t ≤ 64 := Lib.bitLen_le t 64 (Nat.le_refl _) htQ
    have Fin := hide hb
    have i1 : (m : Int) ≤ 17592186044000 := by omega
    generalize Lib.bitLen t = bl at *
    clear hb hx hx' dx dt hidem hm ht ht0 htQ hzl hx1 lx h0 hpc
    go_enter Tryd.func74, Tryd.ntmps74
    go_wp2_with fail
    refine cx.mono ?_
    rintro e w_ ⟨rfl, rfl⟩
    go_wp2_with (go_at_call 98; refine hlen.mono ?_; rintro e w' ⟨rfl, rfl⟩)
    go_ret
    exact ⟨m * 64 + bl, by rw [Int.natCast_add, Int.natCast_mul]; rfl, Fin.out, rfl⟩
theorem isBits_ex (x : Nat) : ∃ b, IsBits x b := by
  by_cases h : x = 0
  · exact ⟨0, by rw [h]; exact IsBits.zero⟩
  · exact ⟨x.log2 + 1, Nat.lt_log2_self, fun _ => by rw [Nat.add_sub_cancel]; exact Nat.log2_self_le h⟩
theorem nbits_s {w : World} {u : Value} {x L b : Nat} (hu : Nw w u x L) (hb : IsBits x b) (hL : L ≤ 17592186044000) :
    Calls Tryd.prog 74 #[u] w fun e w' => e = .returned (.int .i64 (b : Int)) ∧ w = w' :=
  (nbits_n hu hL).mono fun e w' ⟨c, he, hc, hw⟩ => ⟨by rw [he, hc.one hb], hw⟩
theorem bits_le {X b n : Nat} (h : IsBits X b) (hX : X < 2 ^ n) : b ≤ n := by
  rcases Nat.lt_or_ge n b with h1 | h1
  · have h2 := h.2 (by omega)
    have h3 : 2 ^ n ≤ 2 ^ (b - 1) := Nat.pow_le_pow_right (by omega) (by omega)
    omega
  · exact h1
end Go.Proofs.YtkonakjchimniaaDoor
