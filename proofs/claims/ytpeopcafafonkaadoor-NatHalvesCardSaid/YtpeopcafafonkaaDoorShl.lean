/-
  nat.Shl, nat.Shr, nat.Bits.
-/
import Derived.Test.YtpeopcafafonkaaDoorShift
namespace Go.Proofs.YtpeopcafafonkaaDoor
open Go.RowKit Go.Proofs.YtpeopcafafonkaaDoor.Num
set_option linter.unusedVariables false
set_option maxRecDepth 100000

/-- A list of just so many words, without the noughts at its end. -/
theorem clip_words {w0 w : World} {size x : Nat} {us : List Nat} (hl : us.length = size) (du : Dg Q us) (hv : vl Q us = x) (hrow : Row .u64 53 w w0.heap.size 0 (madeCells #[.int .u64 0] size) us) (hs : size ≤ 17592186044416) :
    Calls Tryd.prog 78 #[.slice (some ⟨w0.heap.size, 0, none⟩) size size] w fun e w' => ∃ r, e = .returned r ∧ Own .u64 53 w' w0.heap.size r (cn Q x) ∧ w = w' := by
  have h := clip_any (w0.heap.size + 1) (some ⟨w0.heap.size, 0, none⟩) size size us w ⟨hl, fun _ => ⟨_, _, rfl, by omega, fun j hj => hrow.cell (by omega)⟩⟩ (Nat.le_refl _) (by unfold maxLen; omega)
  refine h.mono fun e w' ⟨he, hw⟩ => ⟨_, he, ?_, hw⟩
  rw [← hv, cn_vl Q_two du, ← hw]
  exact own_clip hrow (Nat.le_refl _) (by rw [size_madeCells]) (by unfold maxLen; omega)

set_option maxHeartbeats 2000000 in
theorem nshl_ok {w : World} {u : Value} {x L sh K : Nat} (hu : Nw w u x L) (hL : L ≤ 800000000000) (hsh : sh ≤ 65536) (hK : L + sh / 64 + 1 ≤ K) :
    Calls Tryd.prog 41 #[u, .int .i64 (sh : Int)] w fun e w' => ∃ r, e = .returned (.tuple #[r, .int .i64 0]) ∧ Own .u64 53 w' w.heap.size r (cn Q (2 ^ sh * x)) ∧ Cw w' r (2 ^ sh * x) K ∧ Below w.heap.size w w' := by
  have hxL := hide hu.lt
  obtain ⟨A, n, c, xs, rfl, hx, dx, hnc, hc, rfl, hn⟩ := hu
  obtain ⟨A', c', hpc, hcm, hx', -, cx⟩ := clip_get _ A n c xs w hx hnc hc
  have lx := tz_length_le xs
  have hx1 := hx.1
  have dt := tz_dg dx
  have ht := vl_lt dt
  obtain ⟨far, hfar⟩ : ∃ far, sh / 64 = far := ⟨_, rfl⟩
  have eq : Int.tdiv (sh : Int) 64 = (far : Int) := by rw [← hfar]; exact (Int.ofNat_tdiv sh 64).symm
  have hpw : 2 ^ sh < Q ^ (far + 1) := by
    rw [show Q = 2 ^ 64 from rfl, ← Nat.pow_mul]
    exact Nat.pow_lt_pow_right (by omega) (by omega)
  have hup := up_any A' (tz xs).length c' sh ((tz xs).length + far + 1) (tz xs) w hx' dt (by omega) hsh (by omega) (by omega) (by
    rw [Nat.add_assoc, Nat.pow_add, Nat.mul_comm (Q ^ _)]
    exact Nat.mul_lt_mul'' hpw ht)
  rw [tz_vl] at hup
  have fin : Hid (∀ r w', Own .u64 53 w' w.heap.size r (cn Q (2 ^ sh * vl Q xs)) → Cw w' r (2 ^ sh * vl Q xs) K) := hide (fun r w' ho => Cw.of ho (by
    refine Nat.lt_of_lt_of_le (m := Q ^ L * Q ^ (far + 1)) ?_ ?_
    · rw [Nat.mul_comm (Q ^ L)]
      exact Nat.mul_lt_mul'' hpw hxL.out
    · rw [← Nat.pow_add]
      exact Nat.pow_le_pow_right Q_pos (by omega)))
  obtain ⟨V, hV⟩ : ∃ V, Hid (2 ^ sh * vl Q xs = V) := ⟨_, hide rfl⟩
  rw [hV.out] at hup fin ⊢
  obtain ⟨m, hm⟩ : ∃ m, (tz xs).length = m := ⟨_, rfl⟩
  rw [hm] at hup cx hpc lx
  obtain ⟨size, hsize⟩ : ∃ size, m + far + 1 = size := ⟨_, rfl⟩
  rw [hsize] at hup
  have es : (m : Int) + (far : Int) + 1 = (size : Int) := by omega
  have hsb : size ≤ 17592186044416 := by omega
  have Hup := hide hup
  clear hx hx' dx dt ht hpw hfar hV hm hup hxL
  go_enter Tryd.func41, Tryd.ntmps41
  go_wp2_with fail
  refine cx.mono ?_
  rintro e w_ ⟨rfl, rfl⟩
  go_wp2_with fail
  refine Hup.out.mono ?_
  rintro e w1 ⟨us, rfl, hl, du, hv, hrow, hb⟩
  have hcl := clip_words hl du hv hrow hsb
  clear hl du hv hrow
  go_wp2_with fail
  refine hcl.mono ?_
  rintro e w_ ⟨r, rfl, ho, rfl⟩
  have f2 := fin.out r _ ho
  go_wp2_with fail
  go_ret2
  exact ⟨_, rfl, ho, f2, hb⟩

set_option maxHeartbeats 2000000 in
theorem nshr_ok {w : World} {u : Value} {x L sh : Nat} (hu : Nw w u x L) (hL : L ≤ 17592186044000) (hsh : sh ≤ 65536) :
    Calls Tryd.prog 42 #[u, .int .i64 (sh : Int)] w fun e w' => ∃ r, e = .returned (.tuple #[r, .int .i64 0]) ∧ Own .u64 53 w' w.heap.size r (cn Q (x / 2 ^ sh)) ∧ Cw w' r (x / 2 ^ sh) L ∧ Below w.heap.size w w' := by
  have hxL := hide hu.lt
  obtain ⟨A, n, c, xs, rfl, hx, dx, hnc, hc, rfl, hn⟩ := hu
  have hdn := down_any A n c sh xs w hx dx (by omega) hsh
  have fin : Hid (∀ r w', Own .u64 53 w' w.heap.size r (cn Q (vl Q xs / 2 ^ sh)) → Cw w' r (vl Q xs / 2 ^ sh) L) := hide (fun r w' ho => Cw.of ho (Nat.lt_of_le_of_lt (Nat.div_le_self _ _) hxL.out))
  obtain ⟨V, hV⟩ : ∃ V, Hid (vl Q xs / 2 ^ sh = V) := ⟨_, hide rfl⟩
  rw [hV.out] at hdn fin ⊢
  obtain ⟨size, hsize⟩ : ∃ size, n - sh / 64 = size := ⟨_, rfl⟩
  rw [hsize] at hdn
  have hsb : size ≤ 17592186044416 := by omega
  have Hdn := hide hdn
  clear hx dx hsize hV hdn hxL
  go_enter Tryd.func42, Tryd.ntmps42
  go_wp2_with fail
  refine Hdn.out.mono ?_
  rintro e w1 ⟨us, rfl, hl, du, hv, hrow, hb⟩
  have hcl := clip_words hl du hv hrow hsb
  clear hl du hv hrow
  go_wp2_with fail
  refine hcl.mono ?_
  rintro e w_ ⟨r, rfl, ho, rfl⟩
  have f2 := fin.out r _ ho
  go_wp2_with fail
  go_ret2
  exact ⟨_, rfl, ho, f2, hb⟩

theorem nshl_err (w : World) (u : Value) (z : Int) (hz : z < 0 ∨ 65536 < z) :
    Calls Tryd.prog 41 #[u, .int .i64 z] w fun e w' => e = .returned (.tuple #[.slice none 0 0, .int .i64 2]) ∧ w = w' := by
  by_cases h0 : z < 0
  · have t1 : decide (z < 0) = true := decide_eq_true h0
    clear hz h0
    go_enter Tryd.func41, Tryd.ntmps41
    go_wp2_with fail
    go_ret2
    exact ⟨rfl, rfl⟩
  · have t1 : decide (z < 0) = false := decide_eq_false h0
    have t2 : decide (65536 < z) = true := decide_eq_true (by omega)
    clear hz h0
    go_enter Tryd.func41, Tryd.ntmps41
    go_wp2_with fail
    go_ret2
    exact ⟨rfl, rfl⟩
theorem nshr_err (w : World) (u : Value) (z : Int) (hz : z < 0 ∨ 65536 < z) :
    Calls Tryd.prog 42 #[u, .int .i64 z] w fun e w' => e = .returned (.tuple #[.slice none 0 0, .int .i64 2]) ∧ w = w' := by
  by_cases h0 : z < 0
  · have t1 : decide (z < 0) = true := decide_eq_true h0
    clear hz h0
    go_enter Tryd.func42, Tryd.ntmps42
    go_wp2_with fail
    go_ret2
    exact ⟨rfl, rfl⟩
  · have t1 : decide (z < 0) = false := decide_eq_false h0
    have t2 : decide (65536 < z) = true := decide_eq_true (by omega)
    clear hz h0
    go_enter Tryd.func42, Tryd.ntmps42
    go_wp2_with fail
    go_ret2
    exact ⟨rfl, rfl⟩

/-! ### How many bits -/
/-- The number X has b bits. -/
def IsBits (X b : Nat) : Prop := X < 2 ^ b ∧ (b ≠ 0 → 2 ^ (b - 1) ≤ X)
theorem IsBits.zero : IsBits 0 0 := ⟨by omega, fun h => absurd rfl h⟩
theorem IsBits.one {X b c : Nat} (h : IsBits X b) (k : IsBits X c) : b = c := by
  rcases Nat.lt_trichotomy b c with hlt | h' | hlt
  · have h1 := k.2 (by omega)
    have h2 : 2 ^ b ≤ 2 ^ (c - 1) := Nat.pow_le_pow_right (by omega) (by omega)
    have := h.1
    omega
  · exact h'
  · have h1 := h.2 (by omega)
    have h2 : 2 ^ c ≤ 2 ^ (b - 1) := Nat.pow_le_pow_right (by omega) (by omega)
    have := k.1
    omega
theorem isBits_top {m t : Nat} {zs : List Nat} (hz : zs.length = m + 1) (dz : Dg Q zs) (ht : zs.getD m 0 = t) (h0 : t ≠ 0) : IsBits (vl Q zs) (m * 64 + Lib.bitLen t) := by
  have hq : Q = 2 ^ 64 := rfl
  have htQ : t < Q := by rw [← ht]; exact dz.getD Q_pos m
  obtain ⟨h1, h2, h3⟩ := Lib.bitLenAux_bounds 64 t (by rw [← hq]; exact htQ) h0
  have e : Lib.bitLen t = Lib.bitLenAux 64 t := rfl
  rw [← e] at h1 h2 h3
  have hv : vl Q zs = vl Q (zs.take m) + Q ^ m * t := by
    have h := vl_take_succ Q zs m
    rwa [List.take_of_length_le (by omega), ht] at h
  have hl : vl Q (zs.take m) < Q ^ m := by
    have h := vl_lt (dz.take m)
    exact Nat.lt_of_lt_of_le h (Nat.pow_le_pow_right Q_pos (by rw [List.length_take]; omega))
  have hp : Q ^ m = 2 ^ (m * 64) := by rw [hq, ← Nat.pow_mul, Nat.mul_comm]
  rw [hp] at hl hv
  generalize Lib.bitLen t = b at *
  refine ⟨?_, fun _ => ?_⟩
  · rw [Nat.pow_add]
    have h4 : 2 ^ (m * 64) * (t + 1) ≤ 2 ^ (m * 64) * 2 ^ b := Nat.mul_le_mul_left _ h3
    rw [Nat.mul_add] at h4
    omega
  · rw [show m * 64 + b - 1 = m * 64 + (b - 1) by omega, Nat.pow_add]
    have h4 : 2 ^ (m * 64) * 2 ^ (b - 1) ≤ 2 ^ (m * 64) * t := Nat.mul_le_mul_left _ h2
    omega

set_option maxHeartbeats 2000000 in
theorem nbits_n {w : World} {u : Value} {x L : Nat} (hu : Nw w u x L) (hL : L ≤ 17592186044000) :
    Calls Tryd.prog 43 #[u] w fun e w' => ∃ b : Nat, e = .returned (.int .i64 (b : Int)) ∧ IsBits x b ∧ w = w' := by
  obtain ⟨A, n, c, xs, rfl, hx, dx, hnc, hc, rfl, hn⟩ := hu
  obtain ⟨A', c', hpc, hcm, hx', -, cx⟩ := clip_get _ A n c xs w hx hnc hc
  have lx := tz_length_le xs
  have hx1 := hx.1
  have dt := tz_dg dx
  have hidem := tz_idem xs
  rw [← tz_vl]
  generalize tz xs = zs at *
  have hzl := hx'.1
  rcases Nat.eq_zero_or_pos zs.length with h0 | h0
  · have hz : zs = [] := List.eq_nil_of_length_eq_zero h0
    subst hz
    rw [List.length_nil] at cx
    clear hx hx' dx dt
    go_enter Tryd.func43, Tryd.ntmps43
    go_wp2_with fail
    refine cx.mono ?_
    rintro e w_ ⟨rfl, rfl⟩
    go_wp2_with fail
    go_ret
    exact ⟨0, rfl, IsBits.zero, rfl⟩
  · obtain ⟨m, hm⟩ : ∃ m, zs.length = m + 1 := ⟨zs.length - 1, by omega⟩
    obtain ⟨t, ht⟩ : ∃ t, zs.getD m 0 = t := ⟨_, rfl⟩
    have ht0 : t ≠ 0 := by
      intro h
      have h1 := tz_step_zero zs m (by omega) (by rw [ht, h])
      rw [List.take_of_length_le (by omega), hidem] at h1
      have h2 := congrArg List.length h1
      have h3 := tz_length_le (zs.take m)
      rw [List.length_take] at h3
      omega
    have hb := isBits_top hm dt ht ht0
    have htQ : t < Q := by rw [← ht]; exact dt.getD Q_pos m
    obtain ⟨b, o, hA, _, hcell⟩ := hx'.at_ (show m < zs.length by omega)
    subst hA
    rw [ht] at hcell
    rw [hm] at cx
    have hlen := Tryd.bits_Len64 (t : Int) w (by omega) (by unfold Q at htQ; omega)
    rw [Int.toNat_natCast] at hlen
    have hlb : Lib.bitLen t ≤ 64 := Lib.bitLen_le t 64 (Nat.le_refl _) htQ
    have Fin := hide hb
    have i1 : (m : Int) ≤ 17592186044000 := by omega
    generalize Lib.bitLen t = bl at *
    clear hb hx hx' dx dt hidem hm ht ht0 htQ hzl hx1 lx h0 hpc
    go_enter Tryd.func43, Tryd.ntmps43
    go_wp2_with fail
    refine cx.mono ?_
    rintro e w_ ⟨rfl, rfl⟩
    go_wp2_with (go_at_call 94; refine hlen.mono ?_; rintro e w' ⟨rfl, rfl⟩)
    go_ret
    exact ⟨m * 64 + bl, by rw [Int.natCast_add, Int.natCast_mul]; rfl, Fin.out, rfl⟩
end Go.Proofs.YtpeopcafafonkaaDoor
