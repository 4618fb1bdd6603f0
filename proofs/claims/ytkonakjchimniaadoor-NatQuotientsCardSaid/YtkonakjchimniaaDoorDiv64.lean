/-
  math/bits.Div64: quotient and rest of two words by one.
-/
import Derived.Test.YtkonakjchimniaaDoorTrim
import Derived.Test.YtkonakjchimniaaDoorShelf
import Derived.Test.YtkonakjchimniaaDoorDivM
import Derived.Lib.ItoaNum
import Derived.Deep.DeepCutAuto
import Derived.Deep.CutBlock
import Derived.BigGuardPart
namespace Go.Proofs.YtkonakjchimniaaDoor
open Go.RowKit Go.Proofs.YtkonakjchimniaaDoor.Num
set_option linter.unusedVariables false
set_option maxRecDepth 100000

theorem wrapN (a : Nat) (ha : a < Q) : IntKind.u64.wrap (a : Int) = (a : Int) := by rw [IntKind.wrap_u64]; unfold Q at ha; omega
theorem wrapM (a : Nat) : IntKind.u64.wrap (a : Int) = ((a % Q : Nat) : Int) := by rw [IntKind.wrap_u64]; unfold Q; omega
theorem shlN (a s : Nat) : (a : Int) * 2 ^ s = ((a * 2 ^ s : Nat) : Int) := by rw [Int.natCast_mul, Int.natCast_pow]; rfl
theorem shrN (a s : Nat) : (a : Int) / 2 ^ s = ((a / 2 ^ s : Nat) : Int) := by
  rw [Int.natCast_ediv, Int.natCast_pow]; rfl

/-- How far a word is shifted till its top bit is set. -/
def lz (y : Nat) : Nat := 64 - Lib.bitLen y
theorem lz_spec {y : Nat} (h0 : y ≠ 0) (h : y < Q) : (64 - (Lib.bitLen y : Int)) = (lz y : Int) ∧ lz y ≤ 63 ∧ y * 2 ^ lz y < Q ∧ 9223372036854775808 ≤ y * 2 ^ lz y := by
  have hq : Q = 2 ^ 64 := rfl
  obtain ⟨h1, h2, h3⟩ := Lib.bitLenAux_bounds 64 y (by rw [← hq]; exact h) h0
  have h4 : Lib.bitLen y ≤ 64 := Lib.bitLen_le y 64 (Nat.le_refl _) (by rw [← hq]; exact h)
  have e : Lib.bitLen y = Lib.bitLenAux 64 y := rfl
  rw [← e] at h1 h2 h3
  unfold lz
  generalize Lib.bitLen y = n at *
  refine ⟨by omega, by omega, ?_, ?_⟩
  · have h5 : y * 2 ^ (64 - n) < 2 ^ n * 2 ^ (64 - n) := Nat.mul_lt_mul_of_pos_right h3 (Nat.pow_pos (by omega))
    rw [← Nat.pow_add, Nat.add_sub_cancel' h4] at h5
    rw [hq]; exact h5
  · have h5 : 2 ^ (n - 1) * 2 ^ (64 - n) ≤ y * 2 ^ (64 - n) := Nat.mul_le_mul_right _ h2
    rw [← Nat.pow_add, show n - 1 + (64 - n) = 63 by omega] at h5
    exact h5

theorem orN (hi lo s : Nat) (hs : s ≤ 63) (h1 : hi * 2 ^ s < Q) (h2 : lo < Q) : bits .or .u64 ((hi * 2 ^ s : Nat) : Int) ((lo / 2 ^ (64 - s) : Nat) : Int) = ((hi * 2 ^ s + lo / 2 ^ (64 - s) : Nat) : Int) ∧ lo / 2 ^ (64 - s) < 2 ^ s := by
  have hlt : lo / 2 ^ (64 - s) < 2 ^ s := by
    rw [Nat.div_lt_iff_lt_mul (Nat.pow_pos (by omega)), ← Nat.pow_add, show s + (64 - s) = 64 by omega]
    exact h2
  refine ⟨?_, hlt⟩
  have hl2 : lo / 2 ^ (64 - s) ≤ lo := Nat.div_le_self _ _
  unfold Q at h1 h2
  rw [bits_or_u64_nat _ _ h1 (by omega), Nat.mul_comm hi, ← Nat.two_pow_add_eq_or_of_lt hlt]

/-- What is left behind a digit, reckoned with wraps. -/
theorem un_spec {u z1 q1 Y u2 : Nat} (n1 : u * 4294967296 + z1 = q1 * Y + u2) (h : u2 < Q) : ∃ A1 A2 A3 : Nat, IntKind.u64.wrap ((u : Int) * 4294967296) = (A1 : Int) ∧
    IntKind.u64.wrap ((A1 : Int) + (z1 : Int)) = (A2 : Int) ∧ IntKind.u64.wrap ((q1 : Int) * (Y : Int)) = (A3 : Int) ∧ IntKind.u64.wrap ((A2 : Int) - (A3 : Int)) = (u2 : Int) := by
  refine ⟨u * 4294967296 % Q, (u * 4294967296 + z1) % Q, q1 * Y % Q, ?_, ?_, ?_, ?_⟩
  · rw [← wrapM, Int.natCast_mul]; rfl
  · rw [← Int.natCast_add, wrapM, Nat.mod_add_mod]
  · rw [← Int.natCast_mul, wrapM]
  · rw [IntKind.wrap_u64, n1]
    unfold Q at *
    omega

/-- What the loop holds: the digit's guess and its rest. -/
def EstRel (u z1 Y y1 : Nat) (qv rv : Value) : Prop :=
  ∃ q r : Nat, qv = .int .u64 (q : Int) ∧ rv = .int .u64 (r : Int) ∧ Hid (u = q * y1 + r) ∧ Hid ((u * 4294967296 + z1) / Y ≤ q) ∧ q ≤ 4294967297 ∧ r < 4294967296

set_option maxHeartbeats 4000000 in
theorem div64_big (hi lo y : Nat) (w : World) (hy : y < Q) (hlo : lo < Q) (hlt : hi < y) (h0 : hi ≠ 0) :
    Calls Tryd.prog 83 #[.int .u64 (hi : Int), .int .u64 (lo : Int), .int .u64 (y : Int)] w fun e w' => e = .returned (.tuple #[.int .u64 (((hi * Q + lo) / y : Nat) : Int), .int .u64 (((hi * Q + lo) % y : Nat) : Int)]) ∧ w = w' := by
  have hz := Tryd.bits_LeadingZeros64 (y : Int) w (by omega) (by unfold Q at hy; omega)
  rw [Int.toNat_natCast] at hz
  obtain ⟨es, hs63, hYQ, hY63⟩ := lz_spec (y := y) (by omega) hy
  rw [es] at hz
  clear es
  have hz := hz.mono (fun _ _ h => (⟨h.1, h.2.symm⟩ : _ ∧ w = _))
  generalize lz y = s at *
  have hH : hi * 2 ^ s < y * 2 ^ s := Nat.mul_lt_mul_of_pos_right hlt (Nat.pow_pos (by omega))
  obtain ⟨eO, hLs⟩ := orN hi lo s hs63 (by omega) hlo
  have hu : hi * 2 ^ s + lo / 2 ^ (64 - s) < y * 2 ^ s := by
    have h1 : (hi + 1) * 2 ^ s ≤ y * 2 ^ s := Nat.mul_le_mul_right _ hlt
    rw [Nat.add_mul] at h1
    omega
  have eUZ : (hi * Q + lo) * 2 ^ s = (hi * 2 ^ s + lo / 2 ^ (64 - s)) * Q + lo * 2 ^ s % Q := by
    have h1 : lo * 2 ^ s / Q = lo / 2 ^ (64 - s) := by
      have e : Q = 2 ^ (64 - s) * 2 ^ s := by rw [← Nat.pow_add, show 64 - s + s = 64 by omega]; rfl
      rw [e, Nat.mul_div_mul_right _ _ (Nat.pow_pos (by omega))]
    have h2 := Nat.mod_add_div (lo * 2 ^ s) Q
    rw [h1] at h2
    rw [Nat.add_mul, Nat.add_mul, Nat.mul_right_comm]
    rw [Nat.mul_comm Q] at h2
    omega
  have eY : IntKind.u64.wrap ((y : Int) * 2 ^ s) = ((y * 2 ^ s : Nat) : Int) := by rw [shlN, wrapN _ hYQ]
  have eH : IntKind.u64.wrap ((hi : Int) * 2 ^ s) = ((hi * 2 ^ s : Nat) : Int) := by rw [shlN, wrapN _ (by omega)]
  have eL : (lo : Int) / 2 ^ (64 - s) = ((lo / 2 ^ (64 - s) : Nat) : Int) := shrN _ _
  have eZ : IntKind.u64.wrap ((lo : Int) * 2 ^ s) = ((lo * 2 ^ s % Q : Nat) : Int) := by rw [shlN, wrapM]
  have hzQ : lo * 2 ^ s % Q < Q := Nat.mod_lt _ Q_pos
  generalize hi * 2 ^ s = H at *
  generalize lo / 2 ^ (64 - s) = L at *
  generalize lo * 2 ^ s % Q = z at *
  obtain ⟨Y, hY⟩ : ∃ Y, Hid (y * 2 ^ s = Y) := ⟨_, hide rfl⟩
  rw [hY.out] at eY hYQ hY63 hu hH
  obtain ⟨u, hU⟩ : ∃ u, Hid (H + L = u) := ⟨_, hide rfl⟩
  rw [hU.out] at eO hu eUZ
  have eY1 : (Y : Int) / 4294967296 = ((Y / 4294967296 : Nat) : Int) := by omega
  have eY0 : bits .and .u64 (Y : Int) 4294967295 = ((Y % 4294967296 : Nat) : Int) := Mul64.maskN Y (by unfold Q at hYQ; exact hYQ)
  have ez1 : (z : Int) / 4294967296 = ((z / 4294967296 : Nat) : Int) := by omega
  have ez0 : bits .and .u64 (z : Int) 4294967295 = ((z % 4294967296 : Nat) : Int) := Mul64.maskN z (by unfold Q at hzQ; exact hzQ)
  have dY : Hid (Y = Y / 4294967296 * 4294967296 + Y % 4294967296) := hide (by omega)
  have dz : Hid (z = z / 4294967296 * 4294967296 + z % 4294967296) := hide (by omega)
  have by1 : 2147483648 ≤ Y / 4294967296 ∧ Y / 4294967296 < 4294967296 := by unfold Q at hYQ; omega
  have by0 : Y % 4294967296 < 4294967296 := Nat.mod_lt _ (by omega)
  have bz1 : z / 4294967296 < 4294967296 := by unfold Q at hzQ; omega
  have bz0 : z % 4294967296 < 4294967296 := Nat.mod_lt _ (by omega)
  generalize Y / 4294967296 = y1 at *
  generalize Y % 4294967296 = y0 at *
  generalize z / 4294967296 = z1 at *
  generalize z % 4294967296 = z0 at *
  obtain ⟨i1, i2⟩ := est_init (b := 4294967296) (z := z1) (by omega) dY.out by0 (by omega) hu bz1
  have i3 : u = u / y1 * y1 + u % y1 := (Nat.div_add_mod' u y1).symm
  have i4 : u % y1 < y1 := Nat.mod_lt _ (by omega)
  have eq1 : (u : Int) / (y1 : Int) = ((u / y1 : Nat) : Int) := (Int.natCast_ediv u y1).symm
  obtain ⟨q, hq⟩ : ∃ q, u / y1 = q := ⟨_, rfl⟩
  obtain ⟨r, hr⟩ : ∃ r, u % y1 = r := ⟨_, rfl⟩
  rw [hq] at i1 i2 i3 eq1
  rw [hr] at i3 i4
  have eP : (q : Int) * (y1 : Int) = ((q * y1 : Nat) : Int) := (Int.natCast_mul q y1).symm
  obtain ⟨P, hP⟩ : ∃ P, q * y1 = P := ⟨_, rfl⟩
  rw [hP] at eP
  have bP : P ≤ u := by omega
  have eR : (u : Int) - (P : Int) = (r : Int) := by omega
  have st : EstRel u z1 Y y1 (.int .u64 (q : Int)) (.int .u64 (r : Int)) := ⟨q, r, rfl, rfl, hide i3, hide i1, i2, by omega⟩
  have I1 := hide i1
  have Hlt := hide hlt
  have HUZ := hide eUZ
  unfold Q at hy hlo hYQ
  have b0 : ((y : Int) == 0) = false := beq_eq_false_iff_ne.2 (by omega)
  have b1 : ¬ ((y : Int) ≤ (hi : Int)) := by omega
  have b2 : ((hi : Int) == 0) = false := beq_eq_false_iff_ne.2 (by omega)
  have c1 : (1 : Int) ≤ (y1 : Int) := by omega
  have c1' : ((y1 : Int) == 0) = false := beq_eq_false_iff_ne.2 (by omega)
  clear i1 i3 hq hr hP h0 hH hLs hlt eUZ hzQ
  obtain ⟨R1, hR1⟩ : ∃ R, Hid ((hi * Q + lo) / y = R) := ⟨_, hide rfl⟩
  obtain ⟨R2, hR2⟩ : ∃ R, Hid ((hi * Q + lo) % y = R) := ⟨_, hide rfl⟩
  rw [hR1.out, hR2.out]
  obtain ⟨T, hT⟩ : ∃ T, Hid ((u * 4294967296 + z1) / Y = T) := ⟨_, hide rfl⟩
  go_enter Tryd.func83, Tryd.ntmps83
  go_upto_block 0 with (go_at_call 84; refine hz.mono ?_; rintro e w' ⟨rfl, rfl⟩)
  go_cut [15] (fun qv wx => qv = .int .u64 (T : Int) ∧ w = wx)
  case first =>
    clear eY eH eL eZ eO eY1 eY0 ez1 ez0 eq1 eP eR hz HUZ Hlt I1 hU hY b0 b1 b2 c1 c1' dz hy hlo hYQ i2 i4 bP hs63 bz0
    go_wp2_with fail
    go_loop [15, 16] (fun qv rv => EstRel u z1 Y y1 qv rv) (fun qv _ => (intOf qv).toNat)
    case atStart => exact st
    case round =>
      obtain ⟨q, r, rfl, rfl, he, hq, hq1, hr⟩ := hrel
      clear st
      by_cases g1 : 4294967296 ≤ q ∨ 4294967296 * r + z1 < q * y0
      · obtain ⟨p, rfl⟩ : ∃ p, q = p + 1 := ⟨q - 1, by
          rcases g1 with g | g
          · omega
          · rcases Nat.eq_zero_or_pos q with h | h
            · subst h; omega
            · omega⟩
        obtain ⟨d1, d2⟩ := est_down dY.out hu bz1 he.out g1
        have hpp : p ≤ 4294967296 := by omega
        have hfin : 4294967296 ≤ r + y1 → Hid (((u * 4294967296 + z1) / Y : Nat) = p) := fun h =>
          hide (est_stop dY.out hu d2 d1 (est_break by0 hpp h)).symm
        have hnext : r + y1 < 4294967296 → EstRel u z1 Y y1 (.int .u64 (p : Int)) (.int .u64 ((r + y1 : Nat) : Int)) := fun h => ⟨p, r + y1, rfl, rfl, hide d2, hide d1, by omega, h⟩
        have hprod : p + 1 < 4294967296 → (p + 1) * y0 < Q := fun h => by
          have h1 : (p + 1) * y0 ≤ 4294967296 * y0 := Nat.mul_le_mul_right _ (by omega)
          unfold Q; omega
        clear d1 d2 he hq dY
        by_cases g3 : 4294967296 ≤ p + 1
        · have k3 : decide ((4294967296 : Int) ≤ (p : Int) + 1) = true := decide_eq_true (by omega)
          clear g1 hprod
          by_cases g2 : 4294967296 ≤ r + y1
          · have Hf := hfin g2
            have k2 : decide ((4294967296 : Int) ≤ (r : Int) + (y1 : Int)) = true := decide_eq_true (by omega)
            clear hfin hnext g2 g3 hu bz1 by0 hq1
            go_wp2_with fail
            go_meet
            exact ⟨by rw [← hT.out, Hf.out], rfl⟩
          · have Hn := hnext (by omega)
            have k2 : decide ((4294967296 : Int) ≤ (r : Int) + (y1 : Int)) = false := decide_eq_false (by omega)
            clear hfin hnext g2 g3 hu bz1 by0 hq1
            go_wp2_with fail
            go_round
            case rel => exact Hn
            case measure => simp [intOf]
        · have k3 : decide ((4294967296 : Int) ≤ (p : Int) + 1) = false := decide_eq_false (by omega)
          have g4 : 4294967296 * r + z1 < (p + 1) * y0 := by
            rcases g1 with g | g
            · omega
            · exact g
          have hp := hprod (by omega)
          have eM : ((p : Int) + 1) * (y0 : Int) = (((p + 1) * y0 : Nat) : Int) := by rw [Int.natCast_mul, Int.natCast_succ]
          generalize (p + 1) * y0 = M at *
          have k4 : decide ((4294967296 : Int) * (r : Int) + (z1 : Int) < (M : Int)) = true := decide_eq_true (by omega)
          have k5 : (M : Int) ≤ 18446744073709551615 := by unfold Q at hp; omega
          clear g1 hprod hp
          by_cases g2 : 4294967296 ≤ r + y1
          · have Hf := hfin g2
            have k2 : decide ((4294967296 : Int) ≤ (r : Int) + (y1 : Int)) = true := decide_eq_true (by omega)
            clear hfin hnext g2 g3 g4 hu by0 hq1
            go_wp2_with fail
            go_meet
            exact ⟨by rw [← hT.out, Hf.out], rfl⟩
          · have Hn := hnext (by omega)
            have k2 : decide ((4294967296 : Int) ≤ (r : Int) + (y1 : Int)) = false := decide_eq_false (by omega)
            clear hfin hnext g2 g3 g4 hu by0 hq1
            go_wp2_with fail
            go_round
            case rel => exact Hn
            case measure => simp [intOf]
      · have g3 : q < 4294967296 := by omega
        have g4 : q * y0 ≤ 4294967296 * r + z1 := by omega
        have Hf : Hid (((u * 4294967296 + z1) / Y : Nat) = q) := hide (est_stop dY.out hu he.out hq.out g4).symm
        have eM : (q : Int) * (y0 : Int) = ((q * y0 : Nat) : Int) := (Int.natCast_mul q y0).symm
        have hp : q * y0 < Q := by
          have h1 : q * y0 ≤ 4294967296 * y0 := Nat.mul_le_mul_right _ (by omega)
          unfold Q; omega
        generalize q * y0 = M at *
        have k3 : decide ((4294967296 : Int) ≤ (q : Int)) = false := decide_eq_false (by omega)
        have k4 : decide ((4294967296 : Int) * (r : Int) + (z1 : Int) < (M : Int)) = false := decide_eq_false (by omega)
        have k5 : (M : Int) ≤ 18446744073709551615 := by unfold Q at hp; omega
        clear g1 g3 hp he hq dY hu by0 hq1 g4
        go_wp2_with fail
        go_meet
        exact ⟨by rw [← hT.out, Hf.out], rfl⟩
  case rest =>
    obtain ⟨rfl, rfl⟩ := hcut
    rw [← hT.out]
    clear eY eH eL eZ eO eY1 eY0 ez1 ez0 eq1 eP eR hz I1 hU b0 b1 b2 i2 i4 bP st
    have hYp : 0 < Y := by omega
    have q1b := est_lt (b := 4294967296) hu bz1
    have n1 : u * 4294967296 + z1 = (u * 4294967296 + z1) / Y * Y + (u * 4294967296 + z1) % Y := (Nat.div_add_mod' _ _).symm
    have hu2 : (u * 4294967296 + z1) % Y < Y := Nat.mod_lt _ hYp
    generalize (u * 4294967296 + z1) / Y = q1 at *
    generalize (u * 4294967296 + z1) % Y = u2 at *
    obtain ⟨A1, A2, A3, f1, f2, f3, f4⟩ := un_spec n1 (show u2 < Q by unfold Q; omega)
    obtain ⟨i1, i2⟩ := est_init (b := 4294967296) (z := z0) (by omega) dY.out by0 (by omega) hu2 bz0
    have i3 : u2 = u2 / y1 * y1 + u2 % y1 := (Nat.div_add_mod' u2 y1).symm
    have i4 : u2 % y1 < y1 := Nat.mod_lt _ (by omega)
    have eq1 : (u2 : Int) / (y1 : Int) = ((u2 / y1 : Nat) : Int) := (Int.natCast_ediv u2 y1).symm
    obtain ⟨q, hq⟩ : ∃ q, u2 / y1 = q := ⟨_, rfl⟩
    obtain ⟨r, hr⟩ : ∃ r, u2 % y1 = r := ⟨_, rfl⟩
    rw [hq] at i1 i2 i3 eq1
    rw [hr] at i3 i4
    have eP : (q : Int) * (y1 : Int) = ((q * y1 : Nat) : Int) := (Int.natCast_mul q y1).symm
    obtain ⟨P, hP⟩ : ∃ P, q * y1 = P := ⟨_, rfl⟩
    rw [hP] at eP
    have bP : P ≤ u2 := by omega
    have eR : (u2 : Int) - (P : Int) = (r : Int) := by omega
    have st : EstRel u2 z0 Y y1 (.int .u64 (q : Int)) (.int .u64 (r : Int)) := ⟨q, r, rfl, rfl, hide i3, hide i1, i2, by omega⟩
    have hu2Q : (u2 : Int) ≤ 18446744073709551615 := by omega
    have N1 := hide n1
    have HU2 := hide hu2
    clear i1 i3 hq hr hP n1 hu hy hlo
    go_upto_block 2 with fail
    go_cut [18] (fun qv wx => qv = .int .u64 (((u2 * 4294967296 + z0) / Y : Nat) : Int) ∧ w = wx)
    case first =>
      clear f1 f2 f3 f4 eq1 eP eR N1 HUZ Hlt hY c1 c1' dz hYQ i2 i4 bP hs63 bz1 q1b HU2 hu2Q
      have hu := hu2
      have bz1 := bz0
      clear hu2 bz0
      go_wp2_with fail
      go_loop [18, 16] (fun qv rv => EstRel u2 z0 Y y1 qv rv) (fun qv _ => (intOf qv).toNat)
      case atStart => exact st
      case round =>
        obtain ⟨q, r, rfl, rfl, he, hq, hq1, hr⟩ := hrel
        clear st
        by_cases g1 : 4294967296 ≤ q ∨ 4294967296 * r + z0 < q * y0
        · obtain ⟨p, rfl⟩ : ∃ p, q = p + 1 := ⟨q - 1, by
            rcases g1 with g | g
            · omega
            · rcases Nat.eq_zero_or_pos q with h | h
              · subst h; omega
              · omega⟩
          obtain ⟨d1, d2⟩ := est_down dY.out hu bz1 he.out g1
          have hpp : p ≤ 4294967296 := by omega
          have hfin : 4294967296 ≤ r + y1 → Hid (((u2 * 4294967296 + z0) / Y : Nat) = p) := fun h =>
            hide (est_stop dY.out hu d2 d1 (est_break by0 hpp h)).symm
          have hnext : r + y1 < 4294967296 → EstRel u2 z0 Y y1 (.int .u64 (p : Int)) (.int .u64 ((r + y1 : Nat) : Int)) := fun h => ⟨p, r + y1, rfl, rfl, hide d2, hide d1, by omega, h⟩
          have hprod : p + 1 < 4294967296 → (p + 1) * y0 < Q := fun h => by
            have h1 : (p + 1) * y0 ≤ 4294967296 * y0 := Nat.mul_le_mul_right _ (by omega)
            unfold Q; omega
          clear d1 d2 he hq dY
          by_cases g3 : 4294967296 ≤ p + 1
          · have k3 : decide ((4294967296 : Int) ≤ (p : Int) + 1) = true := decide_eq_true (by omega)
            clear g1 hprod
            by_cases g2 : 4294967296 ≤ r + y1
            · have Hf := hfin g2
              have k2 : decide ((4294967296 : Int) ≤ (r : Int) + (y1 : Int)) = true := decide_eq_true (by omega)
              clear hfin hnext g2 g3 hu bz1 by0 hq1
              go_wp2_with fail
              go_meet
              exact ⟨by rw [Hf.out], rfl⟩
            · have Hn := hnext (by omega)
              have k2 : decide ((4294967296 : Int) ≤ (r : Int) + (y1 : Int)) = false := decide_eq_false (by omega)
              clear hfin hnext g2 g3 hu bz1 by0 hq1
              go_wp2_with fail
              go_round
              case rel => exact Hn
              case measure => simp [intOf]
          · have k3 : decide ((4294967296 : Int) ≤ (p : Int) + 1) = false := decide_eq_false (by omega)
            have g4 : 4294967296 * r + z0 < (p + 1) * y0 := by
              rcases g1 with g | g
              · omega
              · exact g
            have hp := hprod (by omega)
            have eM : ((p : Int) + 1) * (y0 : Int) = (((p + 1) * y0 : Nat) : Int) := by rw [Int.natCast_mul, Int.natCast_succ]
            generalize (p + 1) * y0 = M at *
            have k4 : decide ((4294967296 : Int) * (r : Int) + (z0 : Int) < (M : Int)) = true := decide_eq_true (by omega)
            have k5 : (M : Int) ≤ 18446744073709551615 := by unfold Q at hp; omega
            clear g1 hprod hp
            by_cases g2 : 4294967296 ≤ r + y1
            · have Hf := hfin g2
              have k2 : decide ((4294967296 : Int) ≤ (r : Int) + (y1 : Int)) = true := decide_eq_true (by omega)
              clear hfin hnext g2 g3 g4 hu by0 hq1
              go_wp2_with fail
              go_meet
              exact ⟨by rw [Hf.out], rfl⟩
            · have Hn := hnext (by omega)
              have k2 : decide ((4294967296 : Int) ≤ (r : Int) + (y1 : Int)) = false := decide_eq_false (by omega)
              clear hfin hnext g2 g3 g4 hu by0 hq1
              go_wp2_with fail
              go_round
              case rel => exact Hn
              case measure => simp [intOf]
        · have g3 : q < 4294967296 := by omega
          have g4 : q * y0 ≤ 4294967296 * r + z0 := by omega
          have Hf : Hid (((u2 * 4294967296 + z0) / Y : Nat) = q) := hide (est_stop dY.out hu he.out hq.out g4).symm
          have eM : (q : Int) * (y0 : Int) = ((q * y0 : Nat) : Int) := (Int.natCast_mul q y0).symm
          have hp : q * y0 < Q := by
            have h1 : q * y0 ≤ 4294967296 * y0 := Nat.mul_le_mul_right _ (by omega)
            unfold Q; omega
          generalize q * y0 = M at *
          have k3 : decide ((4294967296 : Int) ≤ (q : Int)) = false := decide_eq_false (by omega)
          have k4 : decide ((4294967296 : Int) * (r : Int) + (z0 : Int) < (M : Int)) = false := decide_eq_false (by omega)
          have k5 : (M : Int) ≤ 18446744073709551615 := by unfold Q at hp; omega
          clear g1 g3 hp he hq dY hu by0 hq1 g4
          go_wp2_with fail
          go_meet
          exact ⟨by rw [Hf.out], rfl⟩
    case rest =>
      obtain ⟨rfl, rfl⟩ := hcut
      have q0b := est_lt (b := 4294967296) HU2.out bz0
      have n0 : u2 * 4294967296 + z0 = (u2 * 4294967296 + z0) / Y * Y + (u2 * 4294967296 + z0) % Y := (Nat.div_add_mod' _ _).symm
      have hu3 : (u2 * 4294967296 + z0) % Y < Y := Nat.mod_lt _ hYp
      obtain ⟨q0, hq0⟩ : ∃ q0, (u2 * 4294967296 + z0) / Y = q0 := ⟨_, rfl⟩
      obtain ⟨u3, hu3e⟩ : ∃ u3, (u2 * 4294967296 + z0) % Y = u3 := ⟨_, rfl⟩
      rw [hq0] at q0b n0
      rw [hu3e] at n0 hu3
      rw [hq0]
      obtain ⟨B1, B2, B3, k1, k2, k3, k4⟩ := un_spec n0 (show u3 < Q by unfold Q; omega)
      have two := two_digits hYp N1.out n0 hu3
      have e1 : u * (4294967296 * 4294967296) + (z1 * 4294967296 + z0) = (hi * Q + lo) * 2 ^ s := by
        rw [HUZ.out, ← dz.out]; rfl
      rw [e1, ← hY.out, Nat.mul_div_mul_right _ _ (Nat.pow_pos (by omega)), Nat.mul_mod_mul_right, hR1.out, hR2.out] at two
      have e2 : (u3 : Int) / 2 ^ s = (R2 : Int) := by
        rw [shrN, ← two.2, Nat.mul_div_cancel _ (Nat.pow_pos (by omega))]
      have e3 : Hid ((q1 : Int) * 4294967296 + (q0 : Int) = (R1 : Int)) := hide (by rw [two.1]; omega)
      clear two e1 hq0 hu3e n0 hu3 f1 f2 f3 f4 eq1 eP eR N1 HUZ Hlt hY i4 i2 bP st HU2 hu2 hR1 hR2 hT dz dY hY63 hYp
      go_wp2_with fail
      go_ret2
      exact ⟨by rw [e3.out]; rfl, rfl⟩

set_option maxHeartbeats 1000000 in
theorem div64_small (lo y : Nat) (w : World) (hy : y < Q) (hlo : lo < Q) (hlt : 0 < y) :
    Calls Tryd.prog 83 #[.int .u64 0, .int .u64 (lo : Int), .int .u64 (y : Int)] w fun e w' => e = .returned (.tuple #[.int .u64 ((lo / y : Nat) : Int), .int .u64 ((lo % y : Nat) : Int)]) ∧ ∃ n, w' = w.drewN n := by
  have b0 : ((y : Int) == 0) = false := beq_eq_false_iff_ne.2 (by omega)
  have b1 : ¬ ((y : Int) ≤ 0) := by omega
  have c1 : (1 : Int) ≤ (y : Int) := by omega
  have e1 : (lo : Int) / (y : Int) = ((lo / y : Nat) : Int) := (Int.natCast_ediv lo y).symm
  have e2 : (lo : Int) % (y : Int) = ((lo % y : Nat) : Int) := (Int.natCast_emod lo y).symm
  have h1 : lo / y ≤ lo := Nat.div_le_self _ _
  have h2 : lo % y ≤ lo := Nat.mod_le _ _
  unfold Q at hlo
  generalize lo / y = q at *
  generalize lo % y = r at *
  have h3 : (q : Int) ≤ 18446744073709551615 := by omega
  have h4 : (r : Int) ≤ 18446744073709551615 := by omega
  have E2 := hide e2
  clear h1 h2 hlo hy
  go_enter Tryd.func83, Tryd.ntmps83
  go_wp2_with fail
  go_quiet (fail)
  go_wp2_with fail
  go_ret2
  exact ⟨by first | rfl | (rw [← E2.out]; rfl), nq, rfl⟩
theorem div64 (hi lo y : Nat) (w : World) (hy : y < Q) (hlo : lo < Q) (hlt : hi < y) :
    Calls Tryd.prog 83 #[.int .u64 (hi : Int), .int .u64 (lo : Int), .int .u64 (y : Int)] w fun e w' => e = .returned (.tuple #[.int .u64 (((hi * Q + lo) / y : Nat) : Int), .int .u64 (((hi * Q + lo) % y : Nat) : Int)]) ∧ ∃ n, w' = w.drewN n := by
  by_cases h0 : hi = 0
  · subst h0
    rw [Nat.zero_mul, Nat.zero_add]
    exact div64_small lo y w hy hlo hlt
  · exact (div64_big hi lo y w hy hlo hlt h0).mono fun e w' ⟨he, hw⟩ => ⟨he, 0, hw.symm⟩
end Go.Proofs.YtkonakjchimniaaDoor
