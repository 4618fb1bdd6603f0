/-
  Shared texts, one behind the other: Div64, DivW, DivMod, Shift, Bit, Long1, Long2, Long3, DivFull, Win, Find.
-/
import Derived.Test.YtpfeacdhplbblaaGreatBundleA
import Derived.Test.YtpfeacdhplbblaaGreatShelf
import Derived.Lib.ItoaNum
import Derived.Deep.DeepCutAuto
import Derived.Deep.CutBlock
import Derived.BigGuardPart
import Derived.Deep.RegionHeld3
import Derived.IntWalk
import Derived.Deep.QuietTactic
import Derived.BigQuiet
import Derived.Test.YtpfeacdhplbblaaGreatLeap
import Derived.Test.YtpfeacdhplbblaaGreatApply
import Derived.BigRegion

namespace Go.Proofs.YtpfeacdhplbblaaGreat
open Go.RowKit Go.Proofs.YtpfeacdhplbblaaGreat.Num
set_option linter.unusedVariables false
set_option maxRecDepth 100000
theorem wrapN (a : Nat) (ha : a < Q) : IntKind.u64.wrap (a : Int) = (a : Int) := by rw [IntKind.wrap_u64]; unfold Q at ha; omega
theorem wrapM (a : Nat) : IntKind.u64.wrap (a : Int) = ((a % Q : Nat) : Int) := by rw [IntKind.wrap_u64]; unfold Q; omega
theorem shlN (a s : Nat) : (a : Int) * 2 ^ s = ((a * 2 ^ s : Nat) : Int) := by rw [Int.natCast_mul, Int.natCast_pow]; rfl
theorem shrN (a s : Nat) : (a : Int) / 2 ^ s = ((a / 2 ^ s : Nat) : Int) := by
  rw [Int.natCast_ediv, Int.natCast_pow]; rfl
def lz (y : Nat) : Nat := 64 - Lib.bitLen y
theorem lz_spec {y : Nat} (h0 : y ≠ 0) (h : y < Q) : (64 - (Lib.bitLen y : Int)) = (lz y : Int) ∧ lz y ≤ 63 ∧ y * 2 ^ lz y < Q ∧ 9223372036854775808 ≤ y * 2 ^ lz y := by
  have hq : Q = 2 ^ 64 := rfl
  obtain ⟨h1, h2, h3⟩ := Lib.bitLenAux_bounds 64 y (by rw [← hq]; exact h) h0
  have h4 : Lib.bitLen y ≤ 64 := Lib.bitLen_le y 64 (Nat.le_refl _) (by rw [← hq]; exact h)
  have e : Lib.bitLen y = Lib.bitLenAux 64 y := rfl
  rw [← e] at h1 h2 h3
  unfold lz
  generalize Lib.bitLen y = n at *
  refine ⟨by omega, by omega, ?_, ?_⟩
  · have h5 : y * 2 ^ (64 - n) < 2 ^ n * 2 ^ (64 - n) := Nat.mul_lt_mul_of_pos_right h3 (Nat.pow_pos (by omega))
    rw [← Nat.pow_add, Nat.add_sub_cancel' h4] at h5
    rw [hq]; exact h5
  · have h5 : 2 ^ (n - 1) * 2 ^ (64 - n) ≤ y * 2 ^ (64 - n) := Nat.mul_le_mul_right _ h2
    rw [← Nat.pow_add, show n - 1 + (64 - n) = 63 by omega] at h5
    exact h5
theorem orN (hi lo s : Nat) (hs : s ≤ 63) (h1 : hi * 2 ^ s < Q) (h2 : lo < Q) : bits .or .u64 ((hi * 2 ^ s : Nat) : Int) ((lo / 2 ^ (64 - s) : Nat) : Int) = ((hi * 2 ^ s + lo / 2 ^ (64 - s) : Nat) : Int) ∧ lo / 2 ^ (64 - s) < 2 ^ s := by
  have hlt : lo / 2 ^ (64 - s) < 2 ^ s := by
    rw [Nat.div_lt_iff_lt_mul (Nat.pow_pos (by omega)), ← Nat.pow_add, show s + (64 - s) = 64 by omega]
    exact h2
  refine ⟨?_, hlt⟩
  have hl2 : lo / 2 ^ (64 - s) ≤ lo := Nat.div_le_self _ _
  unfold Q at h1 h2
  rw [bits_or_u64_nat _ _ h1 (by omega), Nat.mul_comm hi, ← Nat.two_pow_add_eq_or_of_lt hlt]
theorem un_spec {u z1 q1 Y u2 : Nat} (n1 : u * 4294967296 + z1 = q1 * Y + u2) (h : u2 < Q) : ∃ A1 A2 A3 : Nat, IntKind.u64.wrap ((u : Int) * 4294967296) = (A1 : Int) ∧
    IntKind.u64.wrap ((A1 : Int) + (z1 : Int)) = (A2 : Int) ∧ IntKind.u64.wrap ((q1 : Int) * (Y : Int)) = (A3 : Int) ∧ IntKind.u64.wrap ((A2 : Int) - (A3 : Int)) = (u2 : Int) := by
  refine ⟨u * 4294967296 % Q, (u * 4294967296 + z1) % Q, q1 * Y % Q, ?_, ?_, ?_, ?_⟩
  · rw [← wrapM, Int.natCast_mul]; rfl
  · rw [← Int.natCast_add, wrapM, Nat.mod_add_mod]
  · rw [← Int.natCast_mul, wrapM]
  · rw [IntKind.wrap_u64, n1]
    unfold Q at *
    omega
def EstRel (u z1 Y y1 : Nat) (qv rv : Value) : Prop :=
  ∃ q r : Nat, qv = .int .u64 (q : Int) ∧ rv = .int .u64 (r : Int) ∧ Hid (u = q * y1 + r) ∧ Hid ((u * 4294967296 + z1) / Y ≤ q) ∧ q ≤ 4294967297 ∧ r < 4294967296
set_option maxHeartbeats 4000000 in
theorem div64_big (hi lo y : Nat) (w : World) (hy : y < Q) (hlo : lo < Q) (hlt : hi < y) (h0 : hi ≠ 0) :
    Calls Tryz.prog 120 #[.int .u64 (hi : Int), .int .u64 (lo : Int), .int .u64 (y : Int)] w fun e w' => e = .returned (.tuple #[.int .u64 (((hi * Q + lo) / y : Nat) : Int), .int .u64 (((hi * Q + lo) % y : Nat) : Int)]) ∧ w = w' := by
  have hz := Tryz.bits_LeadingZeros64 (y : Int) w (by omega) (by unfold Q at hy; omega)
  rw [Int.toNat_natCast] at hz
  obtain ⟨es, hs63, hYQ, hY63⟩ := lz_spec (y := y) (by omega) hy
  rw [es] at hz
  clear es
  have hz := hz.mono (fun _ _ h => (⟨h.1, h.2.symm⟩ : _ ∧ w = _))
  generalize lz y = s at *
  have hH : hi * 2 ^ s < y * 2 ^ s := Nat.mul_lt_mul_of_pos_right hlt (Nat.pow_pos (by omega))
  obtain ⟨eO, hLs⟩ := orN hi lo s hs63 (by omega) hlo
  have hu : hi * 2 ^ s + lo / 2 ^ (64 - s) < y * 2 ^ s := by
    have h1 : (hi + 1) * 2 ^ s ≤ y * 2 ^ s := Nat.mul_le_mul_right _ hlt
    rw [Nat.add_mul] at h1
    omega
  have eUZ : (hi * Q + lo) * 2 ^ s = (hi * 2 ^ s + lo / 2 ^ (64 - s)) * Q + lo * 2 ^ s % Q := by
    have h1 : lo * 2 ^ s / Q = lo / 2 ^ (64 - s) := by
      have e : Q = 2 ^ (64 - s) * 2 ^ s := by rw [← Nat.pow_add, show 64 - s + s = 64 by omega]; rfl
      rw [e, Nat.mul_div_mul_right _ _ (Nat.pow_pos (by omega))]
    have h2 := Nat.mod_add_div (lo * 2 ^ s) Q
    rw [h1] at h2
    rw [Nat.add_mul, Nat.add_mul, Nat.mul_right_comm]
    rw [Nat.mul_comm Q] at h2
    omega
  have eY : IntKind.u64.wrap ((y : Int) * 2 ^ s) = ((y * 2 ^ s : Nat) : Int) := by rw [shlN, wrapN _ hYQ]
  have eH : IntKind.u64.wrap ((hi : Int) * 2 ^ s) = ((hi * 2 ^ s : Nat) : Int) := by rw [shlN, wrapN _ (by omega)]
  have eL : (lo : Int) / 2 ^ (64 - s) = ((lo / 2 ^ (64 - s) : Nat) : Int) := shrN _ _
  have eZ : IntKind.u64.wrap ((lo : Int) * 2 ^ s) = ((lo * 2 ^ s % Q : Nat) : Int) := by rw [shlN, wrapM]
  have hzQ : lo * 2 ^ s % Q < Q := Nat.mod_lt _ Q_pos
  generalize hi * 2 ^ s = H at *
  generalize lo / 2 ^ (64 - s) = L at *
  generalize lo * 2 ^ s % Q = z at *
  obtain ⟨Y, hY⟩ : ∃ Y, Hid (y * 2 ^ s = Y) := ⟨_, hide rfl⟩
  rw [hY.out] at eY hYQ hY63 hu hH
  obtain ⟨u, hU⟩ : ∃ u, Hid (H + L = u) := ⟨_, hide rfl⟩
  rw [hU.out] at eO hu eUZ
  have eY1 : (Y : Int) / 4294967296 = ((Y / 4294967296 : Nat) : Int) := by omega
  have eY0 : bits .and .u64 (Y : Int) 4294967295 = ((Y % 4294967296 : Nat) : Int) := Mul64.maskN Y (by unfold Q at hYQ; exact hYQ)
  have ez1 : (z : Int) / 4294967296 = ((z / 4294967296 : Nat) : Int) := by omega
  have ez0 : bits .and .u64 (z : Int) 4294967295 = ((z % 4294967296 : Nat) : Int) := Mul64.maskN z (by unfold Q at hzQ; exact hzQ)
  have dY : Hid (Y = Y / 4294967296 * 4294967296 + Y % 4294967296) := hide (by omega)
  have dz : Hid (z = z / 4294967296 * 4294967296 + z % 4294967296) := hide (by omega)
  have by1 : 2147483648 ≤ Y / 4294967296 ∧ Y / 4294967296 < 4294967296 := by unfold Q at hYQ; omega
  have by0 : Y % 4294967296 < 4294967296 := Nat.mod_lt _ (by omega)
  have bz1 : z / 4294967296 < 4294967296 := by unfold Q at hzQ; omega
  have bz0 : z % 4294967296 < 4294967296 := Nat.mod_lt _ (by omega)
  generalize Y / 4294967296 = y1 at *
  generalize Y % 4294967296 = y0 at *
  generalize z / 4294967296 = z1 at *
  generalize z % 4294967296 = z0 at *
  obtain ⟨i1, i2⟩ := est_init (b := 4294967296) (z := z1) (by omega) dY.out by0 (by omega) hu bz1
  have i3 : u = u / y1 * y1 + u % y1 := (Nat.div_add_mod' u y1).symm
  have i4 : u % y1 < y1 := Nat.mod_lt _ (by omega)
  have eq1 : (u : Int) / (y1 : Int) = ((u / y1 : Nat) : Int) := (Int.natCast_ediv u y1).symm
  obtain ⟨q, hq⟩ : ∃ q, u / y1 = q := ⟨_, rfl⟩
  obtain ⟨r, hr⟩ : ∃ r, u % y1 = r := ⟨_, rfl⟩
  rw [hq] at i1 i2 i3 eq1
  rw [hr] at i3 i4
  have eP : (q : Int) * (y1 : Int) = ((q * y1 : Nat) : Int) := (Int.natCast_mul q y1).symm
  obtain ⟨P, hP⟩ : ∃ P, q * y1 = P := ⟨_, rfl⟩
  rw [hP] at eP
  have bP : P ≤ u := by omega
  have eR : (u : Int) - (P : Int) = (r : Int) := by omega
  have st : EstRel u z1 Y y1 (.int .u64 (q : Int)) (.int .u64 (r : Int)) := ⟨q, r, rfl, rfl, hide i3, hide i1, i2, by omega⟩
  have I1 := hide i1
  have Hlt := hide hlt
  have HUZ := hide eUZ
  unfold Q at hy hlo hYQ
  have b0 : ((y : Int) == 0) = false := beq_eq_false_iff_ne.2 (by omega)
  have b1 : ¬ ((y : Int) ≤ (hi : Int)) := by omega
  have b2 : ((hi : Int) == 0) = false := beq_eq_false_iff_ne.2 (by omega)
  have c1 : (1 : Int) ≤ (y1 : Int) := by omega
  have c1' : ((y1 : Int) == 0) = false := beq_eq_false_iff_ne.2 (by omega)
  clear i1 i3 hq hr hP h0 hH hLs hlt eUZ hzQ
  obtain ⟨R1, hR1⟩ : ∃ R, Hid ((hi * Q + lo) / y = R) := ⟨_, hide rfl⟩
  obtain ⟨R2, hR2⟩ : ∃ R, Hid ((hi * Q + lo) % y = R) := ⟨_, hide rfl⟩
  rw [hR1.out, hR2.out]
  obtain ⟨T, hT⟩ : ∃ T, Hid ((u * 4294967296 + z1) / Y = T) := ⟨_, hide rfl⟩
  go_enter Tryz.func120, Tryz.ntmps120
  go_upto_block 0 with (go_at_call 117; refine hz.mono ?_; rintro e w' ⟨rfl, rfl⟩)
  go_cut [15] (fun qv wx => qv = .int .u64 (T : Int) ∧ w = wx)
  case first =>
    clear eY eH eL eZ eO eY1 eY0 ez1 ez0 eq1 eP eR hz HUZ Hlt I1 hU hY b0 b1 b2 c1 c1' dz hy hlo hYQ i2 i4 bP hs63 bz0
    go_wp2_with fail
    go_loop [15, 16] (fun qv rv => EstRel u z1 Y y1 qv rv) (fun qv _ => (intOf qv).toNat)
    case atStart => exact st
    case round =>
      obtain ⟨q, r, rfl, rfl, he, hq, hq1, hr⟩ := hrel
      clear st
      by_cases g1 : 4294967296 ≤ q ∨ 4294967296 * r + z1 < q * y0
      · obtain ⟨p, rfl⟩ : ∃ p, q = p + 1 := ⟨q - 1, by
          rcases g1 with g | g
          · omega
          · rcases Nat.eq_zero_or_pos q with h | h
            · subst h; omega
            · omega⟩
        obtain ⟨d1, d2⟩ := est_down dY.out hu bz1 he.out g1
        have hpp : p ≤ 4294967296 := by omega
        have hfin : 4294967296 ≤ r + y1 → Hid (((u * 4294967296 + z1) / Y : Nat) = p) := fun h =>
          hide (est_stop dY.out hu d2 d1 (est_break by0 hpp h)).symm
        have hnext : r + y1 < 4294967296 → EstRel u z1 Y y1 (.int .u64 (p : Int)) (.int .u64 ((r + y1 : Nat) : Int)) := fun h => ⟨p, r + y1, rfl, rfl, hide d2, hide d1, by omega, h⟩
        have hprod : p + 1 < 4294967296 → (p + 1) * y0 < Q := fun h => by
          have h1 : (p + 1) * y0 ≤ 4294967296 * y0 := Nat.mul_le_mul_right _ (by omega)
          unfold Q; omega
        clear d1 d2 he hq dY
        by_cases g3 : 4294967296 ≤ p + 1
        · have k3 : decide ((4294967296 : Int) ≤ (p : Int) + 1) = true := decide_eq_true (by omega)
          clear g1 hprod
          by_cases g2 : 4294967296 ≤ r + y1
          · have Hf := hfin g2
            have k2 : decide ((4294967296 : Int) ≤ (r : Int) + (y1 : Int)) = true := decide_eq_true (by omega)
            clear hfin hnext g2 g3 hu bz1 by0 hq1
            go_wp2_with fail
            go_meet
            exact ⟨by rw [← hT.out, Hf.out], rfl⟩
          · have Hn := hnext (by omega)
            have k2 : decide ((4294967296 : Int) ≤ (r : Int) + (y1 : Int)) = false := decide_eq_false (by omega)
            clear hfin hnext g2 g3 hu bz1 by0 hq1
            go_wp2_with fail
            go_round
            case rel => exact Hn
            case measure => simp [intOf]
        · have k3 : decide ((4294967296 : Int) ≤ (p : Int) + 1) = false := decide_eq_false (by omega)
          have g4 : 4294967296 * r + z1 < (p + 1) * y0 := by
            rcases g1 with g | g
            · omega
            · exact g
          have hp := hprod (by omega)
          have eM : ((p : Int) + 1) * (y0 : Int) = (((p + 1) * y0 : Nat) : Int) := by rw [Int.natCast_mul, Int.natCast_succ]
          generalize (p + 1) * y0 = M at *
          have k4 : decide ((4294967296 : Int) * (r : Int) + (z1 : Int) < (M : Int)) = true := decide_eq_true (by omega)
          have k5 : (M : Int) ≤ 18446744073709551615 := by unfold Q at hp; omega
          clear g1 hprod hp
          by_cases g2 : 4294967296 ≤ r + y1
          · have Hf := hfin g2
            have k2 : decide ((4294967296 : Int) ≤ (r : Int) + (y1 : Int)) = true := decide_eq_true (by omega)
            clear hfin hnext g2 g3 g4 hu by0 hq1
            go_wp2_with fail
            go_meet
            exact ⟨by rw [← hT.out, Hf.out], rfl⟩
          · have Hn := hnext (by omega)
            have k2 : decide ((4294967296 : Int) ≤ (r : Int) + (y1 : Int)) = false := decide_eq_false (by omega)
            clear hfin hnext g2 g3 g4 hu by0 hq1
            go_wp2_with fail
            go_round
            case rel => exact Hn
            case measure => simp [intOf]
      · have g3 : q < 4294967296 := by omega
        have g4 : q * y0 ≤ 4294967296 * r + z1 := by omega
        have Hf : Hid (((u * 4294967296 + z1) / Y : Nat) = q) := hide (est_stop dY.out hu he.out hq.out g4).symm
        have eM : (q : Int) * (y0 : Int) = ((q * y0 : Nat) : Int) := (Int.natCast_mul q y0).symm
        have hp : q * y0 < Q := by
          have h1 : q * y0 ≤ 4294967296 * y0 := Nat.mul_le_mul_right _ (by omega)
          unfold Q; omega
        generalize q * y0 = M at *
        have k3 : decide ((4294967296 : Int) ≤ (q : Int)) = false := decide_eq_false (by omega)
        have k4 : decide ((4294967296 : Int) * (r : Int) + (z1 : Int) < (M : Int)) = false := decide_eq_false (by omega)
        have k5 : (M : Int) ≤ 18446744073709551615 := by unfold Q at hp; omega
        clear g1 g3 hp he hq dY hu by0 hq1 g4
        go_wp2_with fail
        go_meet
        exact ⟨by rw [← hT.out, Hf.out], rfl⟩
  case rest =>
    obtain ⟨rfl, rfl⟩ := hcut
    rw [← hT.out]
    clear eY eH eL eZ eO eY1 eY0 ez1 ez0 eq1 eP eR hz I1 hU b0 b1 b2 i2 i4 bP st
    have hYp : 0 < Y := by omega
    have q1b := est_lt (b := 4294967296) hu bz1
    have n1 : u * 4294967296 + z1 = (u * 4294967296 + z1) / Y * Y + (u * 4294967296 + z1) % Y := (Nat.div_add_mod' _ _).symm
    have hu2 : (u * 4294967296 + z1) % Y < Y := Nat.mod_lt _ hYp
    generalize (u * 4294967296 + z1) / Y = q1 at *
    generalize (u * 4294967296 + z1) % Y = u2 at *
    obtain ⟨A1, A2, A3, f1, f2, f3, f4⟩ := un_spec n1 (show u2 < Q by unfold Q; omega)
    obtain ⟨i1, i2⟩ := est_init (b := 4294967296) (z := z0) (by omega) dY.out by0 (by omega) hu2 bz0
    have i3 : u2 = u2 / y1 * y1 + u2 % y1 := (Nat.div_add_mod' u2 y1).symm
    have i4 : u2 % y1 < y1 := Nat.mod_lt _ (by omega)
    have eq1 : (u2 : Int) / (y1 : Int) = ((u2 / y1 : Nat) : Int) := (Int.natCast_ediv u2 y1).symm
    obtain ⟨q, hq⟩ : ∃ q, u2 / y1 = q := ⟨_, rfl⟩
    obtain ⟨r, hr⟩ : ∃ r, u2 % y1 = r := ⟨_, rfl⟩
    rw [hq] at i1 i2 i3 eq1
    rw [hr] at i3 i4
    have eP : (q : Int) * (y1 : Int) = ((q * y1 : Nat) : Int) := (Int.natCast_mul q y1).symm
    obtain ⟨P, hP⟩ : ∃ P, q * y1 = P := ⟨_, rfl⟩
    rw [hP] at eP
    have bP : P ≤ u2 := by omega
    have eR : (u2 : Int) - (P : Int) = (r : Int) := by omega
    have st : EstRel u2 z0 Y y1 (.int .u64 (q : Int)) (.int .u64 (r : Int)) := ⟨q, r, rfl, rfl, hide i3, hide i1, i2, by omega⟩
    have hu2Q : (u2 : Int) ≤ 18446744073709551615 := by omega
    have N1 := hide n1
    have HU2 := hide hu2
    clear i1 i3 hq hr hP n1 hu hy hlo
    go_upto_block 2 with fail
    go_cut [18] (fun qv wx => qv = .int .u64 (((u2 * 4294967296 + z0) / Y : Nat) : Int) ∧ w = wx)
    case first =>
      clear f1 f2 f3 f4 eq1 eP eR N1 HUZ Hlt hY c1 c1' dz hYQ i2 i4 bP hs63 bz1 q1b HU2 hu2Q
      have hu := hu2
      have bz1 := bz0
      clear hu2 bz0
      go_wp2_with fail
      go_loop [18, 16] (fun qv rv => EstRel u2 z0 Y y1 qv rv) (fun qv _ => (intOf qv).toNat)
      case atStart => exact st
      case round =>
        obtain ⟨q, r, rfl, rfl, he, hq, hq1, hr⟩ := hrel
        clear st
        by_cases g1 : 4294967296 ≤ q ∨ 4294967296 * r + z0 < q * y0
        · obtain ⟨p, rfl⟩ : ∃ p, q = p + 1 := ⟨q - 1, by
            rcases g1 with g | g
            · omega
            · rcases Nat.eq_zero_or_pos q with h | h
              · subst h; omega
              · omega⟩
          obtain ⟨d1, d2⟩ := est_down dY.out hu bz1 he.out g1
          have hpp : p ≤ 4294967296 := by omega
          have hfin : 4294967296 ≤ r + y1 → Hid (((u2 * 4294967296 + z0) / Y : Nat) = p) := fun h =>
            hide (est_stop dY.out hu d2 d1 (est_break by0 hpp h)).symm
          have hnext : r + y1 < 4294967296 → EstRel u2 z0 Y y1 (.int .u64 (p : Int)) (.int .u64 ((r + y1 : Nat) : Int)) := fun h => ⟨p, r + y1, rfl, rfl, hide d2, hide d1, by omega, h⟩
          have hprod : p + 1 < 4294967296 → (p + 1) * y0 < Q := fun h => by
            have h1 : (p + 1) * y0 ≤ 4294967296 * y0 := Nat.mul_le_mul_right _ (by omega)
            unfold Q; omega
          clear d1 d2 he hq dY
          by_cases g3 : 4294967296 ≤ p + 1
          · have k3 : decide ((4294967296 : Int) ≤ (p : Int) + 1) = true := decide_eq_true (by omega)
            clear g1 hprod
            by_cases g2 : 4294967296 ≤ r + y1
            · have Hf := hfin g2
              have k2 : decide ((4294967296 : Int) ≤ (r : Int) + (y1 : Int)) = true := decide_eq_true (by omega)
              clear hfin hnext g2 g3 hu bz1 by0 hq1
              go_wp2_with fail
              go_meet
              exact ⟨by rw [Hf.out], rfl⟩
            · have Hn := hnext (by omega)
              have k2 : decide ((4294967296 : Int) ≤ (r : Int) + (y1 : Int)) = false := decide_eq_false (by omega)
              clear hfin hnext g2 g3 hu bz1 by0 hq1
              go_wp2_with fail
              go_round
              case rel => exact Hn
              case measure => simp [intOf]
          · have k3 : decide ((4294967296 : Int) ≤ (p : Int) + 1) = false := decide_eq_false (by omega)
            have g4 : 4294967296 * r + z0 < (p + 1) * y0 := by
              rcases g1 with g | g
              · omega
              · exact g
            have hp := hprod (by omega)
            have eM : ((p : Int) + 1) * (y0 : Int) = (((p + 1) * y0 : Nat) : Int) := by rw [Int.natCast_mul, Int.natCast_succ]
            generalize (p + 1) * y0 = M at *
            have k4 : decide ((4294967296 : Int) * (r : Int) + (z0 : Int) < (M : Int)) = true := decide_eq_true (by omega)
            have k5 : (M : Int) ≤ 18446744073709551615 := by unfold Q at hp; omega
            clear g1 hprod hp
            by_cases g2 : 4294967296 ≤ r + y1
            · have Hf := hfin g2
              have k2 : decide ((4294967296 : Int) ≤ (r : Int) + (y1 : Int)) = true := decide_eq_true (by omega)
              clear hfin hnext g2 g3 g4 hu by0 hq1
              go_wp2_with fail
              go_meet
              exact ⟨by rw [Hf.out], rfl⟩
            · have Hn := hnext (by omega)
              have k2 : decide ((4294967296 : Int) ≤ (r : Int) + (y1 : Int)) = false := decide_eq_false (by omega)
              clear hfin hnext g2 g3 g4 hu by0 hq1
              go_wp2_with fail
              go_round
              case rel => exact Hn
              case measure => simp [intOf]
        · have g3 : q < 4294967296 := by omega
          have g4 : q * y0 ≤ 4294967296 * r + z0 := by omega
          have Hf : Hid (((u2 * 4294967296 + z0) / Y : Nat) = q) := hide (est_stop dY.out hu he.out hq.out g4).symm
          have eM : (q : Int) * (y0 : Int) = ((q * y0 : Nat) : Int) := (Int.natCast_mul q y0).symm
          have hp : q * y0 < Q := by
            have h1 : q * y0 ≤ 4294967296 * y0 := Nat.mul_le_mul_right _ (by omega)
            unfold Q; omega
          generalize q * y0 = M at *
          have k3 : decide ((4294967296 : Int) ≤ (q : Int)) = false := decide_eq_false (by omega)
          have k4 : decide ((4294967296 : Int) * (r : Int) + (z0 : Int) < (M : Int)) = false := decide_eq_false (by omega)
          have k5 : (M : Int) ≤ 18446744073709551615 := by unfold Q at hp; omega
          clear g1 g3 hp he hq dY hu by0 hq1 g4
          go_wp2_with fail
          go_meet
          exact ⟨by rw [Hf.out], rfl⟩
    case rest =>
      obtain ⟨rfl, rfl⟩ := hcut
      have q0b := est_lt (b := 4294967296) HU2.out bz0
      have n0 : u2 * 4294967296 + z0 = (u2 * 4294967296 + z0) / Y * Y + (u2 * 4294967296 + z0) % Y := (Nat.div_add_mod' _ _).symm
      have hu3 : (u2 * 4294967296 + z0) % Y < Y := Nat.mod_lt _ hYp
      obtain ⟨q0, hq0⟩ : ∃ q0, (u2 * 4294967296 + z0) / Y = q0 := ⟨_, rfl⟩
      obtain ⟨u3, hu3e⟩ : ∃ u3, (u2 * 4294967296 + z0) % Y = u3 := ⟨_, rfl⟩
      rw [hq0] at q0b n0
      rw [hu3e] at n0 hu3
      rw [hq0]
      obtain ⟨B1, B2, B3, k1, k2, k3, k4⟩ := un_spec n0 (show u3 < Q by unfold Q; omega)
      have two := two_digits hYp N1.out n0 hu3
      have e1 : u * (4294967296 * 4294967296) + (z1 * 4294967296 + z0) = (hi * Q + lo) * 2 ^ s := by
        rw [HUZ.out, ← dz.out]; rfl
      rw [e1, ← hY.out, Nat.mul_div_mul_right _ _ (Nat.pow_pos (by omega)), Nat.mul_mod_mul_right, hR1.out, hR2.out] at two
      have e2 : (u3 : Int) / 2 ^ s = (R2 : Int) := by
        rw [shrN, ← two.2, Nat.mul_div_cancel _ (Nat.pow_pos (by omega))]
      have e3 : Hid ((q1 : Int) * 4294967296 + (q0 : Int) = (R1 : Int)) := hide (by rw [two.1]; omega)
      clear two e1 hq0 hu3e n0 hu3 f1 f2 f3 f4 eq1 eP eR N1 HUZ Hlt hY i4 i2 bP st HU2 hu2 hR1 hR2 hT dz dY hY63 hYp
      go_wp2_with fail
      go_ret2
      exact ⟨by rw [e3.out]; rfl, rfl⟩
set_option maxHeartbeats 1000000 in
theorem div64_small (lo y : Nat) (w : World) (hy : y < Q) (hlo : lo < Q) (hlt : 0 < y) :
    Calls Tryz.prog 120 #[.int .u64 0, .int .u64 (lo : Int), .int .u64 (y : Int)] w fun e w' => e = .returned (.tuple #[.int .u64 ((lo / y : Nat) : Int), .int .u64 ((lo % y : Nat) : Int)]) ∧ ∃ n, w' = w.drewN n := by
  have b0 : ((y : Int) == 0) = false := beq_eq_false_iff_ne.2 (by omega)
  have b1 : ¬ ((y : Int) ≤ 0) := by omega
  have c1 : (1 : Int) ≤ (y : Int) := by omega
  have e1 : (lo : Int) / (y : Int) = ((lo / y : Nat) : Int) := (Int.natCast_ediv lo y).symm
  have e2 : (lo : Int) % (y : Int) = ((lo % y : Nat) : Int) := (Int.natCast_emod lo y).symm
  have h1 : lo / y ≤ lo := Nat.div_le_self _ _
  have h2 : lo % y ≤ lo := Nat.mod_le _ _
  unfold Q at hlo
  generalize lo / y = q at *
  generalize lo % y = r at *
  have h3 : (q : Int) ≤ 18446744073709551615 := by omega
  have h4 : (r : Int) ≤ 18446744073709551615 := by omega
  have E2 := hide e2
  clear h1 h2 hlo hy
  go_enter Tryz.func120, Tryz.ntmps120
  go_wp2_with fail
  go_quiet (fail)
  go_wp2_with fail
  go_ret2
  exact ⟨by first | rfl | (rw [← E2.out]; rfl), nq, rfl⟩
theorem div64 (hi lo y : Nat) (w : World) (hy : y < Q) (hlo : lo < Q) (hlt : hi < y) :
    Calls Tryz.prog 120 #[.int .u64 (hi : Int), .int .u64 (lo : Int), .int .u64 (y : Int)] w fun e w' => e = .returned (.tuple #[.int .u64 (((hi * Q + lo) / y : Nat) : Int), .int .u64 (((hi * Q + lo) % y : Nat) : Int)]) ∧ ∃ n, w' = w.drewN n := by
  by_cases h0 : hi = 0
  · subst h0
    rw [Nat.zero_mul, Nat.zero_add]
    exact div64_small lo y w hy hlo hlt
  · exact (div64_big hi lo y w hy hlo hlt h0).mono fun e w' ⟨he, hw⟩ => ⟨he, 0, hw.symm⟩
def DwRet (t : TypeId) (w : World) (g : Nat) (C : Array Value) (n d S : Nat) (e : Ending) (w' : World) : Prop :=
  ∃ us : List Nat, e = .returned (.int .u64 ((S % d : Nat) : Int)) ∧ us.length = n ∧ Dg Q us ∧ vl Q us = S / d ∧ Row .u64 t w' g 0 C us ∧ w.grownBy w' (some g)
def DwRel (w : World) (g n d : Nat) (C : Array Value) (zs : List Nat) (rv iv : Value) (wr : World) : Prop :=
  ∃ (k r : Nat) (us : List Nat), k ≤ n ∧ iv = .int .i64 ((k : Int) - 1) ∧ rv = .int .u64 (r : Int) ∧ r < d ∧ us.length + k = n ∧ Dg Q us ∧
    Hid (vl Q (zs.drop k) = vl Q us * d + r) ∧ Row .u64 62 wr g 0 C (zs.take k ++ us) ∧ w.grownBy wr (some g)
theorem take_set (zs us : List Nat) {j : Nat} (hj : j < zs.length) (q : Nat) : (zs.take (j + 1) ++ us).set j q = zs.take j ++ (q :: us) := by
  rw [List.take_succ_eq_append_getElem hj, List.append_assoc, List.set_append_right _ _ (by simp; omega), List.length_take, Nat.min_eq_left (by omega), Nat.sub_self]
  simp
theorem take_getD (zs us : List Nat) {j : Nat} (hj : j < zs.length) : (zs.take (j + 1) ++ us).getD j 0 = zs.getD j 0 := by
  simp only [List.getD_eq_getElem?_getD]
  rw [List.getElem?_append_left (by simp; omega), List.getElem?_take, if_pos (by omega)]
set_option maxHeartbeats 1000000 in
theorem divWord_row (g n c d : Nat) (C : Array Value) (zs : List Nat) (w : World) (hr : Row .u64 62 w g 0 C zs) (hzn : zs.length = n) (dz : Dg Q zs) (hd : 0 < d) (hdQ : d < Q) (hn : n ≤ 9223372036854775807) :
    Calls Tryz.prog 110 #[.slice (some ⟨g, 0, none⟩) n c, .int .u64 (d : Int)] w (DwRet 62 w g C n d (vl Q zs)) := by
  have e0 : DwRel w g n d C zs (.int .u64 0) (.int .i64 ((n : Int) - 1)) w :=
    ⟨n, 0, [], Nat.le_refl _, rfl, rfl, hd, by simp, Dg.nil, hide (by rw [List.drop_eq_nil_of_le (by omega)]; simp [vl]), by rw [List.take_of_length_le (by omega), List.append_nil]; exact hr, only_refl _ _⟩
  have Hz := hide hzn
  clear hzn hr
  go_enter Tryz.func110, Tryz.ntmps110
  go_wp2_with fail
  go_loopw [5, 6] (fun rv iv wr => DwRel w g n d C zs rv iv wr) (fun _ iv _ => (intOf iv + 1).toNat)
  case atStart => exact e0
  case round =>
    obtain ⟨k, r, us, hk, rfl, rfl, hrd, hu, du, hv, hrow, hg⟩ := hrel
    clear e0
    rcases Nat.eq_zero_or_pos k with h0 | h0
    · subst h0
      have e := hv.out
      rw [List.drop_zero] at e
      have e1 : vl Q zs / d = vl Q us := by rw [e, Nat.mul_comm, Nat.mul_add_div hd, Nat.div_eq_of_lt hrd, Nat.add_zero]
      have e2 : vl Q zs % d = r := by rw [e, Nat.mul_comm, Nat.mul_add_mod, Nat.mod_eq_of_lt hrd]
      rw [List.take_zero, List.nil_append] at hrow
      have fin : DwRet 62 w g C n d (vl Q zs) (.returned (.int .u64 (r : Int))) wr := ⟨us, by rw [e2], by omega, du, e1.symm, hrow, hg⟩
      clear e e1 e2 hv hu du hrow hg dz
      go_wp2_with fail
      go_ret
      exact fin
    · obtain ⟨j, rfl⟩ : ∃ j, k = j + 1 := ⟨k - 1, by omega⟩
      have ej : ((j + 1 : Nat) : Int) - 1 = (j : Int) := by omega
      rw [ej]
      have hjz : j < zs.length := by rw [Hz.out]; omega
      obtain ⟨z, ez⟩ : ∃ z, Hid (zs.getD j 0 = z) := ⟨_, hide rfl⟩
      have bz : z < Q := by rw [← ez.out]; exact dz.getD Q_pos j
      have hll : j < (zs.take (j + 1) ++ us).length := by simp; omega
      have hcell := hrow.cell hll
      rw [take_getD zs us hjz, ez.out, Nat.zero_add] at hcell
      have hfr := hrow.frozen j
      have hdiv := div64 r z d wr hdQ bz hrd
      have hqb : (r * Q + z) / d < Q := by
        rw [Nat.div_lt_iff_lt_mul hd]
        have : (r + 1) * Q ≤ d * Q := Nat.mul_le_mul_right _ hrd
        rw [Nat.add_mul] at this
        rw [Nat.mul_comm Q d]
        omega
      have hrb : (r * Q + z) % d < d := Nat.mod_lt _ hd
      have hsum : (r * Q + z) / d * d + (r * Q + z) % d = r * Q + z := Nat.div_add_mod' _ _
      generalize (r * Q + z) / d = q at *
      generalize (r * Q + z) % d = r2 at *
      have fin : ∀ m : Nat, DwRel w g n d C zs (.int .u64 (r2 : Int)) (.int .i64 ((j : Int) - 1)) ((wr.drewN m).setCell ⟨g, j, none⟩ (.int .u64 (q : Int))) := by
        intro m
        have hst := (hrow.drewN m).set_ hll q
        rw [take_set zs us hjz, Nat.zero_add] at hst
        refine ⟨j, r2, q :: us, by omega, rfl, rfl, hrb, by simp; omega, Dg.cons hqb du, hide ?_, hst, only_set (only_drewN hg m) rfl _⟩
        rw [vl_drop Q zs j, ez.out, hv.out]
        simp only [vl]
        rw [Nat.add_mul, Nat.mul_add, Nat.mul_comm Q r, ← Nat.mul_assoc]
        omega
      clear hv hrow hg hu du hsum hqb hrb bz hll hjz dz ez Hz ej
      go_wp2_with (go_at_call 120; refine hdiv.mono ?_; rintro e w' ⟨rfl, m, rfl⟩; have fin := fin m)
      go_roundw
      case rel => exact fin
      case measure => simp [intOf]
theorem divWord_nil (c d : Nat) (w : World) : Calls Tryz.prog 110 #[.slice none 0 c, .int .u64 (d : Int)] w fun e w' => e = .returned (.int .u64 0) ∧ w = w' := by
  go_enter Tryz.func110, Tryz.ntmps110
  go_wp2_with fail
  go_loop [5, 6] (fun rv iv => rv = .int .u64 0 ∧ iv = .int .i64 (-1)) (fun _ _ => 0)
  case atStart => exact ⟨rfl, rfl⟩
  case round =>
    obtain ⟨rfl, rfl⟩ := hrel
    go_wp2_with fail
    go_ret
    exact ⟨rfl, rfl⟩
def DwOwn (t : TypeId) (w : World) (B : Nat) (v : Value) (n d S : Nat) (e : Ending) (w' : World) : Prop :=
  ∃ us : List Nat, e = .returned (.int .u64 ((S % d : Nat) : Int)) ∧ us.length = n ∧ Dg Q us ∧ vl Q us = S / d ∧ Own .u64 t w' B v us ∧ w.grownBy w' v.ownBlock
theorem divWord_own (B d : Nat) (v : Value) (zs : List Nat) (w : World) (h : Own .u64 62 w B v zs) (dz : Dg Q zs) (hd : 0 < d) (hdQ : d < Q) :
    Calls Tryz.prog 110 #[v, .int .u64 (d : Int)] w (DwOwn 62 w B v zs.length d (vl Q zs)) := by
  rcases h with ⟨rfl, rfl⟩ | ⟨g, cap, C, rfl, hB, hr, hC, hm⟩
  · refine (divWord_nil 0 d w).mono fun e w' ⟨he, hw⟩ => ?_
    subst hw
    refine ⟨[], ?_, rfl, Dg.nil, ?_, Own.nil, only_refl _ _⟩
    · rw [he]; simp [vl]
    · simp [vl]
  · obtain ⟨cs, _, _, hl, _⟩ := id hr
    have hlm : zs.length ≤ 9223372036854775807 := by unfold maxLen at hm; omega
    refine (divWord_row g zs.length cap d C zs w hr rfl dz hd hdQ hlm).mono fun e w' ⟨us, he, hu, du, hv, hrw, hg⟩ => ?_
    refine ⟨us, he, hu, du, hv, ?_, hg⟩
    rw [← hu]
    exact Own.of_row hrw hB hC hm
theorem clip_own (B : Nat) (v : Value) (us : List Nat) (w : World) (h : Own .u64 62 w B v us) :
    ∃ v', Own .u64 62 w B v' (tz us) ∧ (v'.ownBlock = none ∨ v'.ownBlock = v.ownBlock) ∧ Calls Tryz.prog 90 #[v] w fun e w' => e = .returned v' ∧ w = w' := by
  rcases h with ⟨rfl, rfl⟩ | ⟨g, cap, C, rfl, hB, hr, hC, hm⟩
  · have hc := clip_any w.heap.size none 0 0 [] w Rd.nil (Nat.le_refl _) (by simp [maxLen])
    exact ⟨.slice none 0 0, Own.nil, .inl rfl, hc⟩
  · have hlt := hr.lt
    obtain ⟨cs, _, _, hl, _⟩ := id hr
    have hc := clip_any (g + 1) (some ⟨g, 0, none⟩) us.length cap us w ⟨rfl, fun _ => ⟨g, 0, rfl, by omega, fun j hj => hr.cell hj⟩⟩ (by omega) hm
    refine ⟨clipV (some ⟨g, 0, none⟩) (tz us).length cap, own_clip hr hB hC hm, ?_, hc⟩
    unfold clipV
    split
    · exact .inl rfl
    · exact .inr rfl
def DivRet (t : TypeId) (w : World) (a b : Nat) (e : Ending) (w' : World) : Prop :=
  (b = 0 → e = .returned (.tuple #[.slice none 0 0, .slice none 0 0, .int .i64 3])) ∧
  (0 < b → ∃ q r, e = .returned (.tuple #[q, r, .int .i64 0]) ∧ Own .u64 t w' w.heap.size q (cn Q (a / b)) ∧ Own .u64 t w' w.heap.size r (cn Q (a % b)) ∧ ∀ g, q.ownBlock = some g → r.ownBlock ≠ some g) ∧
  Below w.heap.size w w'
theorem one_word {ys : List Nat} (h : ys.length = 1) : ∃ y, ys = [y] := by
  match ys, h with
  | [y], _ => exact ⟨y, rfl⟩
theorem cn_single {r : Nat} (h : r < Q) : tz [r] = cn Q r := by
  have := cn_vl Q_two (xs := [r]) (Dg.cons h Dg.nil)
  rw [← this]; simp [vl]
theorem pos_of_tz {ys : List Nat} (h : tz ys = ys) (h0 : 0 < ys.length) (dy : Dg Q ys) : Q ^ (ys.length - 1) ≤ vl Q ys := by
  have hc := cn_vl Q_two dy
  rw [h] at hc
  rcases Nat.lt_or_ge (vl Q ys) (Q ^ (ys.length - 1)) with hlt | hge
  · have := cn_length_le Q_two hlt
    rw [hc] at this
    omega
  · exact hge
set_option maxHeartbeats 1000000 in
theorem divmod_zero (A D : Option Addr) (n c m d : Nat) (xs ys : List Nat) (w : World) (hx : Rd .u64 w w.heap.size A n xs) (hy : Rd .u64 w w.heap.size D m ys)
    (dx : Dg Q xs) (dy : Dg Q ys) (hnc : n ≤ c) (hc : c ≤ maxLen) (hmd : m ≤ d) (hd : d ≤ maxLen) (h0 : (tz ys).length = 0) :
    Calls Tryz.prog 88 #[.slice A n c, .slice D m d] w (DivRet 62 w (vl Q xs) (vl Q ys)) := by
  obtain ⟨A', c', hpc, hcm, hx', -, cx⟩ := clip_get _ A n c xs w hx hnc hc
  obtain ⟨D', d', hqd, hdm, hy', -, cy⟩ := clip_get _ D m d ys w hy hmd hd
  have hv : vl Q ys = 0 := by rw [← tz_vl, List.eq_nil_of_length_eq_zero h0]; rfl
  rw [hv]
  generalize (tz xs).length = p at *
  rw [h0] at cy
  clear hx hy hx' hy' dx dy hnc hc hmd hd hpc hcm hqd hdm hv h0
  go_enter Tryz.func88, Tryz.ntmps88
  go_wp2_with (first
    | (go_at_call 90; (with_reducible refine cx.mono ?_); rintro e w' ⟨rfl, rfl⟩)
    | (go_at_call 90; (with_reducible refine cy.mono ?_); rintro e w' ⟨rfl, rfl⟩))
  go_ret3
  exact ⟨fun _ => rfl, fun h => absurd h (by omega), Below.refl _ _⟩
set_option maxHeartbeats 1000000 in
theorem divmod_less (A D : Option Addr) (n c m d : Nat) (xs ys : List Nat) (w : World) (hx : Rd .u64 w w.heap.size A n xs) (hy : Rd .u64 w w.heap.size D m ys)
    (dx : Dg Q xs) (dy : Dg Q ys) (hnc : n ≤ c) (hc : c ≤ maxLen) (hmd : m ≤ d) (hd : d ≤ maxLen) (hn : n ≤ 17592186044000) (hlt : (tz xs).length < (tz ys).length) :
    Calls Tryz.prog 88 #[.slice A n c, .slice D m d] w (DivRet 62 w (vl Q xs) (vl Q ys)) := by
  obtain ⟨A', c', hpc, hcm, hx', -, cx⟩ := clip_get _ A n c xs w hx hnc hc
  obtain ⟨D', d', hqd, hdm, hy', -, cy⟩ := clip_get _ D m d ys w hy hmd hd
  have hless : vl Q xs < vl Q ys := by
    have h1 := vl_lt (tz_dg dx)
    have h2 := pos_of_tz (tz_idem ys) (by omega) (tz_dg dy)
    rw [tz_vl] at h1 h2
    exact Nat.lt_of_lt_of_le (Nat.lt_of_lt_of_le h1 (Nat.pow_le_pow_right Q_pos (by omega))) h2
  have htr := trim_any A' (tz xs).length c' (tz xs) w hx' (tz_dg dx) hpc hcm (by have := tz_length_le xs; have := hx.1; omega)
  rw [tz_vl] at htr
  have hfin : ∀ v w', Own .u64 62 w' w.heap.size v (cn Q (vl Q xs)) → Below w.heap.size w w' → DivRet 62 w (vl Q xs) (vl Q ys) (.returned (.tuple #[.slice none 0 0, v, .int .i64 0])) w' := by
    intro v w' ho hb
    refine ⟨fun h => absurd h (by omega), fun _ => ⟨_, _, rfl, ?_, ?_, fun g hg => by cases hg⟩, hb⟩
    · rw [Nat.div_eq_of_lt hless, cn_zero]; exact Own.nil
    · rw [Nat.mod_eq_of_lt hless]; exact ho
  have b0 : (((tz ys).length : Int) == 0) = false := beq_eq_false_iff_ne.2 (by omega)
  have hlt' : ((tz xs).length : Int) < ((tz ys).length : Int) := by omega
  generalize (tz xs).length = p at *
  generalize (tz ys).length = q at *
  clear hx hy hx' hy' dx dy hnc hc hmd hd hpc hcm hqd hdm hless hlt hn
  go_enter Tryz.func88, Tryz.ntmps88
  go_wp2_with (first
    | (go_at_call 90; (with_reducible refine cx.mono ?_); rintro e w' ⟨rfl, rfl⟩)
    | (go_at_call 90; (with_reducible refine cy.mono ?_); rintro e w' ⟨rfl, rfl⟩)
    | (go_at_call 105; refine htr.mono ?_; rintro e w' ⟨v, rfl, ho, hb⟩; have fin := hfin v w' ho hb))
  go_ret3
  exact fin
set_option maxHeartbeats 2000000 in
theorem divmod_word (A D : Option Addr) (n c m d : Nat) (xs ys : List Nat) (w : World) (hx : Rd .u64 w w.heap.size A n xs) (hy : Rd .u64 w w.heap.size D m ys)
    (dx : Dg Q xs) (dy : Dg Q ys) (hnc : n ≤ c) (hc : c ≤ maxLen) (hmd : m ≤ d) (hd : d ≤ maxLen) (hn : n ≤ 17592186044000) (h1 : (tz ys).length = 1) (hle : 1 ≤ (tz xs).length) :
    Calls Tryz.prog 88 #[.slice A n c, .slice D m d] w (DivRet 62 w (vl Q xs) (vl Q ys)) := by
  obtain ⟨A', c', hpc, hcm, hx', -, cx⟩ := clip_get _ A n c xs w hx hnc hc
  obtain ⟨D', d', hqd, hdm, hy', -, cy⟩ := clip_get _ D m d ys w hy hmd hd
  have hpos := pos_of_tz (tz_idem ys) (by omega) (tz_dg dy)
  rw [tz_vl] at hpos
  obtain ⟨y, ey⟩ := one_word h1
  have hy1 : vl Q ys = y := by rw [← tz_vl, ey]; simp [vl]
  have bY : y < Q := tz_dg dy y (by rw [ey]; simp)
  rw [h1] at hpos hy'
  simp only [Nat.sub_self, Nat.pow_zero] at hpos
  have hy0 : 0 < y := by omega
  obtain ⟨bb, bo, rfl, hbb, hcy⟩ := hy'.at_ (show 0 < 1 by omega)
  rw [ey] at hcy
  simp only [List.getD_cons_zero, Nat.add_zero] at hcy
  have htr := trim_any A' (tz xs).length c' (tz xs) w hx' (tz_dg dx) hpc hcm (by have := tz_length_le xs; have := hx.1; omega)
  rw [tz_vl] at htr
  rw [hy1]
  -- the quotient in its place, cut; the rest as a list of one
  have step : ∀ (v : Value) (w1 : World), Own .u64 62 w1 w.heap.size v (cn Q (vl Q xs)) → Below w.heap.size w w1 →
      Calls Tryz.prog 110 #[v, .int .u64 (y : Int)] w1 (fun e w2 => ∃ v', e = .returned (.int .u64 ((vl Q xs % y : Nat) : Int)) ∧ Below w.heap.size w w2 ∧
        Own .u64 62 w2 w.heap.size v' (cn Q (vl Q xs / y)) ∧ (Calls Tryz.prog 90 #[v] w2 fun e w' => e = .returned v' ∧ w2 = w') ∧ ∀ g, v'.ownBlock = some g → g < w2.heap.size) := by
    intro v w1 ho hb
    have h := divWord_own w.heap.size y v _ w1 ho (dg_cn Q_two _) hy0 bY
    rw [vl_cn Q_two] at h
    refine h.mono fun e w2 ⟨us, he, _, du, hvu, ho2, hg⟩ => ?_
    obtain ⟨v', ho3, hbl, hc⟩ := clip_own _ _ _ _ ho2
    have hb2 : Below w.heap.size w w2 := push_below hb ho hg hb.size
    rw [← cn_vl Q_two du, hvu] at ho3
    refine ⟨v', he, hb2, ho3, hc, fun g hgv => ?_⟩
    obtain ⟨A1, c1, hv1, _, _, _, hlt⟩ := ho3.form
    rw [hv1] at hgv
    cases A1 with
    | none => simp [Value.ownBlock] at hgv
    | some a =>
      simp [Value.ownBlock] at hgv
      have := (hlt a rfl).2
      omega
  have hrQ : vl Q xs % y < Q := Nat.lt_trans (Nat.mod_lt _ hy0) bY
  have hfin : ∀ (v' : Value) (w2 : World), Below w.heap.size w w2 → Own .u64 62 w2 w.heap.size v' (cn Q (vl Q xs / y)) → (∀ g, v'.ownBlock = some g → g < w2.heap.size) →
      ∃ r, (Calls Tryz.prog 90 #[.slice (some ⟨w2.heap.size, 0, none⟩) 1 1] (w2.alloc (.cells #[.int .u64 ((vl Q xs % y : Nat) : Int)] 62)) fun e w' => e = .returned r ∧ w2.alloc (.cells #[.int .u64 ((vl Q xs % y : Nat) : Int)] 62) = w') ∧
        DivRet 62 w (vl Q xs) y (.returned (.tuple #[v', r, .int .i64 0])) (w2.alloc (.cells #[.int .u64 ((vl Q xs % y : Nat) : Int)] 62)) := by
    intro v' w2 hb ho hlt
    have hrow := Row.new w2 .u64 62 #[.int .u64 ((vl Q xs % y : Nat) : Int)] [vl Q xs % y] (Nat.le_refl _) (fun j hj => by
      match j, hj with
      | 0, _ => rfl)
    have hown : Own .u64 62 (w2.alloc (.cells #[.int .u64 ((vl Q xs % y : Nat) : Int)] 62)) w2.heap.size (.slice (some ⟨w2.heap.size, 0, none⟩) 1 1) [vl Q xs % y] := Own.of_row hrow (Nat.le_refl _) rfl (by simp [maxLen])
    obtain ⟨r, ho3, hbl, hc⟩ := clip_own _ _ _ _ hown
    refine ⟨r, hc, fun h => absurd h (by omega), fun _ => ⟨_, _, rfl, ho.alloc _, ?_, fun g hg => ?_⟩, hb.alloc hb.size _⟩
    · rw [← cn_single hrQ]
      exact ho3.mono hb.size
    · have := hlt g hg
      rcases hbl with h | h
      · rw [h]; intro h'; cases h'
      · rw [h]
        simp [Value.ownBlock]
        omega
  have b0 : ((1 : Int) == 0) = false := rfl
  have hlt' : ¬ (((tz xs).length : Int) < 1) := by omega
  rw [h1] at cy
  have Hbb := hide hbb
  generalize (tz xs).length = p at *
  generalize vl Q xs % y = rr at *
  clear hx hy hx' hy' dx dy hnc hc hmd hd hpc hcm hqd hdm hn ey hy1 h1 hpos hrQ hle bY hy0 hbb
  go_enter Tryz.func88, Tryz.ntmps88
  go_wp2_with (first
    | (go_at_call 90; (with_reducible refine cx.mono ?_); rintro e w' ⟨rfl, rfl⟩)
    | (go_at_call 90; (with_reducible refine cy.mono ?_); rintro e w' ⟨rfl, rfl⟩)
    | (go_at_call 105; refine htr.mono ?_; rintro e w1 ⟨v, rfl, ho, hb⟩; have st := step v w1 ho hb; have hcy1 := (hb.cell (p := ⟨bb, bo, none⟩) Hbb.out).trans hcy)
    | (go_at_call 110; refine st.mono ?_; rintro e w2 ⟨v', rfl, hb2, ho2, hcl, hlt2⟩; obtain ⟨r, hcr, fin⟩ := hfin v' w2 hb2 ho2 hlt2)
    | (go_at_call 90; (with_reducible refine hcl.mono ?_); rintro e w' ⟨rfl, rfl⟩)
    | (go_at_call 90; (with_reducible refine hcr.mono ?_); rintro e w' ⟨rfl, rfl⟩))
  go_ret3
  exact fin
theorem up_word (x c s : Nat) (hs : s ≤ 63) (hc : c < 2 ^ s) : bits .or .u64 ((x * 2 ^ s % Q : Nat) : Int) (c : Int) = ((x * 2 ^ s % Q + c : Nat) : Int) ∧ x * 2 ^ s % Q + c < Q := by
  have hQ : Q = 2 ^ (64 - s) * 2 ^ s := by rw [← Nat.pow_add, show 64 - s + s = 64 by omega]; rfl
  have h1 : x * 2 ^ s % Q = x % 2 ^ (64 - s) * 2 ^ s := by rw [hQ, Nat.mul_mod_mul_right]
  have h2 : x % 2 ^ (64 - s) < 2 ^ (64 - s) := Nat.mod_lt _ (Nat.pow_pos (by omega))
  have h3 : x * 2 ^ s % Q + c < Q := by
    have h4 : (x % 2 ^ (64 - s) + 1) * 2 ^ s ≤ 2 ^ (64 - s) * 2 ^ s := Nat.mul_le_mul_right _ h2
    rw [Nat.add_mul, ← hQ] at h4
    rw [h1]
    omega
  refine ⟨?_, h3⟩
  have hb1 : x * 2 ^ s % Q < 18446744073709551616 := by have := h3; unfold Q at this ⊢; omega
  have hb2 : c < 18446744073709551616 := by have := h3; unfold Q at this; omega
  rw [bits_or_u64_nat _ _ hb1 hb2, h1, Nat.mul_comm (x % 2 ^ (64 - s)), ← Nat.two_pow_add_eq_or_of_lt hc]
theorem carry_lt (z s : Nat) (hs : s ≤ 63) (hz : z < Q) : z / 2 ^ (64 - s) < 2 ^ s := by
  rw [Nat.div_lt_iff_lt_mul (Nat.pow_pos (by omega)), ← Nat.pow_add, show s + (64 - s) = 64 by omega]
  exact hz
theorem over_word (x s : Nat) (hs : s ≤ 63) : x * 2 ^ s / Q = x / 2 ^ (64 - s) := by
  have e : Q = 2 ^ (64 - s) * 2 ^ s := by rw [← Nat.pow_add, show 64 - s + s = 64 by omega]; rfl
  rw [e, Nat.mul_div_mul_right _ _ (Nat.pow_pos (by omega))]
theorem atN_lt {xs : List Nat} (dx : Dg Q xs) (i : Int) : atN xs i < Q := by
  unfold atN
  split
  · exact Q_pos
  · exact dx.getD Q_pos _
theorem up_step {k far s x c : Nat} {us xs : List Nat} (hs : s ≤ 63) (hu : us.length = k) (hx : atN xs ((k : Int) - (far : Int)) = x)
    (h : vl Q us + Q ^ k * c = 2 ^ s * Q ^ far * vl Q (xs.take (k - far))) :
    vl Q (us ++ [x * 2 ^ s % Q + c]) + Q ^ (k + 1) * (x / 2 ^ (64 - s)) = 2 ^ s * Q ^ far * vl Q (xs.take (k + 1 - far)) := by
  rw [vl_snoc, hu, ← over_word x s hs, Nat.pow_succ]
  have e1 : Q ^ k * (x * 2 ^ s % Q + c) + Q ^ k * Q * (x * 2 ^ s / Q) = Q ^ k * c + Q ^ k * (x * 2 ^ s) := by
    rw [Nat.mul_assoc, ← Nat.mul_add, ← Nat.mul_add]
    congr 1
    have := Nat.mod_add_div (x * 2 ^ s) Q
    omega
  have e2 : 2 ^ s * Q ^ far * vl Q (xs.take (k + 1 - far)) = 2 ^ s * Q ^ far * vl Q (xs.take (k - far)) + Q ^ k * (x * 2 ^ s) := by
    rcases Nat.lt_or_ge k far with hf | hf
    · have hx0 : x = 0 := by rw [← hx]; unfold atN; rw [if_pos (by omega)]
      rw [hx0, show k + 1 - far = 0 by omega, show k - far = 0 by omega]
      simp
    · have hx1 : xs.getD (k - far) 0 = x := by
        rw [← hx]; unfold atN; rw [if_neg (by omega)]
        congr 1; omega
      rw [show k + 1 - far = (k - far) + 1 by omega, vl_take_succ, hx1, Nat.mul_add]
      congr 1
      have hp : Q ^ k = Q ^ far * Q ^ (k - far) := by rw [← Nat.pow_add]; congr 1; omega
      rw [hp]
      generalize Q ^ far = F
      generalize Q ^ (k - far) = G
      generalize 2 ^ s = T
      rw [Nat.mul_comm T F, Nat.mul_assoc, Nat.mul_assoc]
      congr 1
      rw [Nat.mul_comm x T, ← Nat.mul_assoc, ← Nat.mul_assoc, Nat.mul_comm T G]
  rw [e2]
  omega
def UpRel (t : TypeId) (w : World) (size far s : Nat) (xs : List Nat) (iv : Value) (wr : World) : Prop :=
  ∃ (k : Nat) (us : List Nat), k ≤ size ∧ iv = .int .i64 (k : Int) ∧ Hid (us.length = k) ∧ Dg Q us ∧
    Hid (vl Q us + Q ^ k * (atN xs ((k : Int) - (far : Int) - 1) / 2 ^ (64 - s)) = 2 ^ s * Q ^ far * vl Q (xs.take (k - far))) ∧
    Row .u64 t wr w.heap.size 0 (madeCells #[.int .u64 0] size) (us ++ List.replicate (size - k) 0) ∧ Below w.heap.size w wr
def WordsRet (t : TypeId) (w : World) (size x : Nat) (e : Ending) (w' : World) : Prop :=
  ∃ us : List Nat, e = .returned (.slice (some ⟨w.heap.size, 0, none⟩) size size) ∧ us.length = size ∧ Dg Q us ∧ vl Q us = x ∧ Row .u64 t w' w.heap.size 0 (madeCells #[.int .u64 0] size) us ∧ Below w.heap.size w w'
set_option maxHeartbeats 4000000 in
theorem up_any (A : Option Addr) (n c sh size : Nat) (xs : List Nat) (w : World) (hx : Rd .u64 w w.heap.size A n xs) (dx : Dg Q xs) (hn : n ≤ 17592186044416) (hsh : sh ≤ 65536) (hsz : size ≤ 35184372088832)
    (hfit : n + sh / 64 ≤ size) (hlt : 2 ^ sh * vl Q xs < Q ^ size) :
    Calls Tryz.prog 121 #[.slice A n c, .int .i64 (sh : Int), .int .i64 (size : Int)] w (WordsRet 62 w size (2 ^ sh * vl Q xs)) := by
  have hmk := make_u64 size hsz
  obtain ⟨far, hfar⟩ : ∃ far, sh / 64 = far := ⟨_, rfl⟩
  obtain ⟨s, hs⟩ : ∃ s, sh % 64 = s := ⟨_, rfl⟩
  have eq : Int.tdiv (sh : Int) 64 = (far : Int) := by rw [← hfar]; exact (Int.ofNat_tdiv sh 64).symm
  have er : Int.tmod (sh : Int) 64 = (s : Int) := by rw [← hs]; exact (Int.ofNat_tmod sh 64).symm
  have hs63 : s ≤ 63 := by omega
  have hfb : far ≤ 1024 := by omega
  have hpow : Hid (2 ^ sh = 2 ^ s * Q ^ far) := hide (by
    rw [show Q = 2 ^ 64 from rfl, ← Nat.pow_mul, ← Nat.pow_add]; congr 1; omega)
  rw [hfar] at hfit
  have Dx := hide dx
  have Hlt := hide hlt
  have Hx := hide hx
  obtain ⟨V, hV⟩ : ∃ V, Hid (2 ^ sh * vl Q xs = V) := ⟨_, hide rfl⟩
  rw [hV.out] at Hlt ⊢
  have e0 : Hid (vl Q ([] : List Nat) + Q ^ 0 * (atN xs ((0 : Int) - (far : Int) - 1) / 2 ^ (64 - s)) = 2 ^ s * Q ^ far * vl Q (xs.take (0 - far))) := hide (by
    unfold atN; rw [if_pos (by omega)]; simp [vl])
  have e3 : IntKind.i64.wrap (64 - (s : Int)) = 64 - (s : Int) := IntWalk.i64_in _ (by omega)
  clear hfar hs dx hlt hx
  go_enter Tryz.func121, Tryz.ntmps121
  go_wp2_with fail
  go_loopw [19] (fun iv wr => UpRel 62 w size far s xs iv wr) (fun iv _ => size - (intOf iv).toNat)
  case atStart => exact ⟨0, [], Nat.zero_le _, rfl, hide rfl, Dg.nil, e0, by simpa using Row.made w .u64 62 size, (Below.refl _ _).alloc (Nat.le_refl _) _⟩
  case round =>
    obtain ⟨k, us, hk, rfl, hu, du, hv, hrow, hbel⟩ := hrel
    clear hmk e0
    by_cases hlt : k < size
    · obtain ⟨r, hr⟩ : ∃ r, size - k = r + 1 := ⟨size - k - 1, by omega⟩
      obtain ⟨x, ex⟩ : ∃ x, Hid (atN xs ((k : Int) - (far : Int)) = x) := ⟨_, hide rfl⟩
      obtain ⟨z, ez⟩ : ∃ z, Hid (atN xs ((k : Int) - (far : Int) - 1) = z) := ⟨_, hide rfl⟩
      have bz : z < Q := by rw [← ez.out]; exact atN_lt Dx.out _
      obtain ⟨cc, hcc⟩ : ∃ cc, z / 2 ^ (64 - s) = cc := ⟨_, rfl⟩
      have bcc : cc < 2 ^ s := by rw [← hcc]; exact carry_lt z s hs63 bz
      obtain ⟨eo, bo⟩ := up_word x cc s hs63 bcc
      obtain ⟨y, hy⟩ : ∃ y, x * 2 ^ s % Q = y := ⟨_, rfl⟩
      obtain ⟨o, ho⟩ : ∃ o, y + cc = o := ⟨_, rfl⟩
      have eS : IntKind.u64.wrap ((x : Int) * 2 ^ s) = (y : Int) := by rw [shlN, wrapM, hy]
      have eR : (z : Int) / 2 ^ (64 - s) = (cc : Int) := by rw [shrN, hcc]
      have hv0 := hv.out
      rw [ez.out, hcc] at hv0
      have hv1 := up_step hs63 hu.out ex.out hv0
      rw [hy, ho] at eo bo hv1
      have e1 : IntKind.i64.wrap ((k : Int) - (far : Int)) = (k : Int) - (far : Int) := IntWalk.i64_in _ (by omega)
      have e2 : IntKind.i64.wrap ((k : Int) - (far : Int) - 1) = (k : Int) - (far : Int) - 1 := IntWalk.i64_in _ (by omega)
      have hx2 := Hx.out.below hbel (Nat.le_refl _)
      have atx : Hid (Calls Tryz.prog 96 #[.slice A n c, .int .i64 ((k : Int) - (far : Int))] wr.drew fun e w' => e = .returned (.int .u64 (x : Int)) ∧ wr.drew = w') := hide (by
        have h := at_any w.heap.size A n c xs ((k : Int) - (far : Int)) wr.drew hx2.drew (by unfold maxLen; omega)
        rwa [ex.out] at h)
      have atz : Hid (Calls Tryz.prog 96 #[.slice A n c, .int .i64 ((k : Int) - (far : Int) - 1)] wr.drew fun e w' => e = .returned (.int .u64 (z : Int)) ∧ wr.drew = w') := hide (by
        have h := at_any w.heap.size A n c xs ((k : Int) - (far : Int) - 1) wr.drew hx2.drew (by unfold maxLen; omega)
        rwa [ez.out] at h)
      rw [hr] at hrow
      have hjl : k < (us ++ List.replicate (r + 1) 0).length := by rw [fill_len, hu.out]; omega
      obtain ⟨v0, hc0⟩ : ∃ v0 : Int, wr.drew.cell? ⟨w.heap.size, k, none⟩ = some (.int .u64 v0) := ⟨_, by have h := hrow.drew.cell hjl; rw [Nat.zero_add] at h; exact h⟩
      have hfr := hrow.drew.frozen k
      have hst := hrow.drew.set_ hjl o
      have es : (us ++ List.replicate (r + 1) 0).set k o = (us ++ [o]) ++ List.replicate (size - (k + 1)) 0 := by
        have h := fill_set us r o
        rw [hu.out] at h
        rw [h]; congr 2; omega
      rw [es, Nat.zero_add] at hst
      have ek : ((k + 1 : Nat) : Int) - (far : Int) - 1 = (k : Int) - (far : Int) := by omega
      have fin : UpRel 62 w size far s xs (.int .i64 ((k + 1 : Nat) : Int)) (wr.drew.setCell ⟨w.heap.size, k, none⟩ (.int .u64 (o : Int))) :=
        ⟨k + 1, us ++ [o], by omega, rfl, hide (by simp [hu.out]), du.append (Dg.cons bo Dg.nil), hide (by rw [ek, ex.out]; exact hv1), hst, (below_drewN hbel 1).setCell (Nat.le_refl _) _⟩
      have i1 : (k : Int) < (size : Int) := by omega
      clear hst es hv hv0 hv1 hu du hrow hbel hx2 ex ez bz hcc bcc bo hy ho hr hjl ek Hx Dx hpow Hlt hV
      go_wp2_with fail
      go_region_held3 (fun _ => True) (first | trivial | exact True.intro)
        (first
          | (go_at_call 96; (with_reducible refine atx.out.mono ?_); rintro e w' ⟨rfl, rfl⟩)
          | (go_at_call 96; (with_reducible refine atz.out.mono ?_); rintro e w' ⟨rfl, rfl⟩))
      all_goals
        go_wp2_with fail
        go_roundw
        case rel => exact fin
        case measure => simp [intOf]; omega
    · obtain rfl : k = size := by omega
      simp only [Nat.sub_self, List.replicate_zero, List.append_nil] at hrow
      have e := hv.out
      rw [List.take_of_length_le (by have := Hx.out.1; omega), ← hpow.out, hV.out] at e
      have fin : WordsRet 62 w k V (.returned (.slice (some ⟨w.heap.size, 0, none⟩) k k)) wr := by
        refine ⟨us, rfl, hu.out, du, ?_, hrow, hbel⟩
        have h1 := Hlt.out
        generalize atN xs ((k : Int) - (far : Int) - 1) / 2 ^ (64 - s) = cc at *
        rcases Nat.eq_zero_or_pos cc with h | h
        · rw [h, Nat.mul_zero, Nat.add_zero] at e; exact e
        · have h2 : Q ^ k * 1 ≤ Q ^ k * cc := Nat.mul_le_mul_left _ h
          omega
      clear e hrow hv hu du hbel Hx Dx hpow Hlt hV
      go_wp2_with fail
      go_ret
      exact fin
theorem down_word (x z s : Nat) (hs : s ≤ 63) (hx : x < Q) : bits .or .u64 ((x / 2 ^ s : Nat) : Int) ((z * 2 ^ (64 - s) % Q : Nat) : Int) = ((x / 2 ^ s + z * 2 ^ (64 - s) % Q : Nat) : Int) ∧ x / 2 ^ s + z * 2 ^ (64 - s) % Q < Q ∧
    z * 2 ^ (64 - s) % Q * 2 ^ s = Q * (z % 2 ^ s) := by
  have hQ : Q = 2 ^ s * 2 ^ (64 - s) := by rw [← Nat.pow_add, show s + (64 - s) = 64 by omega]; rfl
  have h1 : z * 2 ^ (64 - s) % Q = z % 2 ^ s * 2 ^ (64 - s) := by rw [hQ, Nat.mul_mod_mul_right]
  have h2 : z % 2 ^ s < 2 ^ s := Nat.mod_lt _ (Nat.pow_pos (by omega))
  have h5 : x / 2 ^ s < 2 ^ (64 - s) := by
    rw [Nat.div_lt_iff_lt_mul (Nat.pow_pos (by omega)), Nat.mul_comm, ← hQ]
    exact hx
  have h3 : x / 2 ^ s + z * 2 ^ (64 - s) % Q < Q := by
    have h4 : (z % 2 ^ s + 1) * 2 ^ (64 - s) ≤ 2 ^ s * 2 ^ (64 - s) := Nat.mul_le_mul_right _ h2
    rw [Nat.add_mul, ← hQ] at h4
    rw [h1]
    omega
  refine ⟨?_, h3, ?_⟩
  · have hb1 : x / 2 ^ s < 18446744073709551616 := by have := h3; unfold Q at this; omega
    have hb2 : z * 2 ^ (64 - s) % Q < 18446744073709551616 := by have := h3; unfold Q at this ⊢; omega
    rw [bits_or_u64_nat _ _ hb1 hb2, h1, Nat.mul_comm (z % 2 ^ s), Nat.or_comm, ← Nat.two_pow_add_eq_or_of_lt h5, Nat.add_comm]
  · rw [h1, Nat.mul_assoc, Nat.mul_comm (2 ^ (64 - s)), ← hQ, Nat.mul_comm]
theorem down_step {k far s x z e0 : Nat} {us xs : List Nat} (hs : s ≤ 63) (hu : us.length = k) (hx : atN xs ((k : Int) + (far : Int)) = x) (hxQ : x < Q)
    (h : vl Q us * 2 ^ s + e0 = vl Q ((xs.drop far).take k) + Q ^ k * (x % 2 ^ s)) :
    vl Q (us ++ [x / 2 ^ s + z * 2 ^ (64 - s) % Q]) * 2 ^ s + e0 = vl Q ((xs.drop far).take (k + 1)) + Q ^ (k + 1) * (z % 2 ^ s) := by
  obtain ⟨-, -, h3⟩ := down_word x z s hs hxQ
  have hx1 : (xs.drop far).getD k 0 = x := by
    rw [← hx]; unfold atN; rw [if_neg (by omega)]
    have : ((k : Int) + (far : Int)).toNat = far + k := by omega
    rw [this]
    simp [List.getD_eq_getElem?_getD]
  rw [vl_snoc, hu, vl_take_succ, hx1, Nat.add_mul, Nat.mul_assoc, Nat.add_mul, h3, Nat.pow_succ, Nat.mul_add, Nat.mul_assoc]
  have e1 : Q ^ k * x = Q ^ k * (x / 2 ^ s * 2 ^ s) + Q ^ k * (x % 2 ^ s) := by
    rw [← Nat.mul_add]
    congr 1
    have := Nat.mod_add_div x (2 ^ s)
    rw [Nat.mul_comm] at this
    omega
  omega
def DnRel (t : TypeId) (w : World) (size far s e0 : Nat) (xs : List Nat) (iv : Value) (wr : World) : Prop :=
  ∃ (k : Nat) (us : List Nat), k ≤ size ∧ iv = .int .i64 (k : Int) ∧ Hid (us.length = k) ∧ Dg Q us ∧
    Hid (vl Q us * 2 ^ s + e0 = vl Q ((xs.drop far).take k) + Q ^ k * (atN xs ((k : Int) + (far : Int)) % 2 ^ s)) ∧
    Row .u64 t wr w.heap.size 0 (madeCells #[.int .u64 0] size) (us ++ List.replicate (size - k) 0) ∧ Below w.heap.size w wr
set_option maxHeartbeats 4000000 in
theorem down_any (A : Option Addr) (n c sh : Nat) (xs : List Nat) (w : World) (hx : Rd .u64 w w.heap.size A n xs) (dx : Dg Q xs) (hn : n ≤ 17592186044416) (hsh : sh ≤ 65536) :
    Calls Tryz.prog 125 #[.slice A n c, .int .i64 (sh : Int)] w (WordsRet 62 w (n - sh / 64) (vl Q xs / 2 ^ sh)) := by
  obtain ⟨far, hfar⟩ : ∃ far, sh / 64 = far := ⟨_, rfl⟩
  obtain ⟨s, hs⟩ : ∃ s, sh % 64 = s := ⟨_, rfl⟩
  have eq : Int.tdiv (sh : Int) 64 = (far : Int) := by rw [← hfar]; exact (Int.ofNat_tdiv sh 64).symm
  have er : Int.tmod (sh : Int) 64 = (s : Int) := by rw [← hs]; exact (Int.ofNat_tmod sh 64).symm
  have hs63 : s ≤ 63 := by omega
  have hfb : far ≤ 1024 := by omega
  obtain ⟨size, hsize⟩ : ∃ size, n - far = size := ⟨_, rfl⟩
  have hmk := make_u64 size (by omega)
  have hpow : Hid (vl Q xs / 2 ^ sh = vl Q (xs.drop far) / 2 ^ s) := hide (by
    have h1 : 2 ^ sh = Q ^ far * 2 ^ s := by
      rw [show Q = 2 ^ 64 from rfl, ← Nat.pow_mul, ← Nat.pow_add]; congr 1; omega
    rw [h1, ← Nat.div_div_eq_div_mul]
    congr 1
    have h2 := vl_cut Q xs far
    have h3 : vl Q (xs.take far) < Q ^ far := by
      have h4 := vl_lt (dx.take far)
      exact Nat.lt_of_lt_of_le h4 (Nat.pow_le_pow_right Q_pos (by rw [List.length_take]; omega))
    rw [h2, Nat.add_mul_div_left _ _ (Nat.pow_pos Q_pos), Nat.div_eq_of_lt h3, Nat.zero_add])
  rw [hfar, hsize]
  have Dx := hide dx
  have Hx := hide hx
  obtain ⟨V, hV⟩ : ∃ V, Hid (vl Q xs / 2 ^ sh = V) := ⟨_, hide rfl⟩
  rw [hV.out]
  obtain ⟨r0, hr0⟩ : ∃ r0, Hid (atN xs ((0 : Int) + (far : Int)) % 2 ^ s = r0) := ⟨_, hide rfl⟩
  have e0 : Hid (vl Q ([] : List Nat) * 2 ^ s + r0 = vl Q ((xs.drop far).take 0) + Q ^ 0 * (atN xs ((0 : Int) + (far : Int)) % 2 ^ s)) := hide (by
    rw [hr0.out]; simp [vl])
  have e3 : IntKind.i64.wrap (64 - (s : Int)) = 64 - (s : Int) := IntWalk.i64_in _ (by omega)
  clear hfar hs dx hx
  have em : max ((n : Int) - (far : Int)) 0 = (size : Int) := by omega
  go_enter Tryz.func125, Tryz.ntmps125
  go_wp2_with fail
  go_loopw [21] (fun iv wr => DnRel 62 w size far s r0 xs iv wr) (fun iv _ => size - (intOf iv).toNat)
  case atStart => exact ⟨0, [], Nat.zero_le _, rfl, hide rfl, Dg.nil, e0, by simpa using Row.made w .u64 62 size, (Below.refl _ _).alloc (Nat.le_refl _) _⟩
  case round =>
    obtain ⟨k, us, hk, rfl, hu, du, hv, hrow, hbel⟩ := hrel
    clear hmk e0 em
    by_cases hlt : k < size
    · obtain ⟨r, hr⟩ : ∃ r, size - k = r + 1 := ⟨size - k - 1, by omega⟩
      obtain ⟨x, ex⟩ : ∃ x, Hid (atN xs ((k : Int) + (far : Int)) = x) := ⟨_, hide rfl⟩
      obtain ⟨z, ez⟩ : ∃ z, Hid (atN xs ((k : Int) + (far : Int) + 1) = z) := ⟨_, hide rfl⟩
      have bx : x < Q := by rw [← ex.out]; exact atN_lt Dx.out _
      obtain ⟨eo, bo, -⟩ := down_word x z s hs63 bx
      have hv0 := hv.out
      rw [ex.out] at hv0
      have hv1 := down_step (z := z) hs63 hu.out ex.out bx hv0
      obtain ⟨y, hy⟩ : ∃ y, z * 2 ^ (64 - s) % Q = y := ⟨_, rfl⟩
      obtain ⟨cc, hcc⟩ : ∃ cc, x / 2 ^ s = cc := ⟨_, rfl⟩
      obtain ⟨o, ho⟩ : ∃ o, cc + y = o := ⟨_, rfl⟩
      have eS : IntKind.u64.wrap ((z : Int) * 2 ^ (64 - s)) = (y : Int) := by rw [shlN, wrapM, hy]
      have eR : (x : Int) / 2 ^ s = (cc : Int) := by rw [shrN, hcc]
      rw [hy, hcc, ho] at eo bo hv1
      have e1 : IntKind.i64.wrap ((k : Int) + (far : Int)) = (k : Int) + (far : Int) := IntWalk.i64_in _ (by omega)
      have e2 : IntKind.i64.wrap ((k : Int) + (far : Int) + 1) = (k : Int) + (far : Int) + 1 := IntWalk.i64_in _ (by omega)
      have hx2 := Hx.out.below hbel (Nat.le_refl _)
      have atx : Hid (Calls Tryz.prog 96 #[.slice A n c, .int .i64 ((k : Int) + (far : Int))] wr.drew fun e w' => e = .returned (.int .u64 (x : Int)) ∧ wr.drew = w') := hide (by
        have h := at_any w.heap.size A n c xs ((k : Int) + (far : Int)) wr.drew hx2.drew (by unfold maxLen; omega)
        rwa [ex.out] at h)
      have atz : Hid (Calls Tryz.prog 96 #[.slice A n c, .int .i64 ((k : Int) + (far : Int) + 1)] wr.drew fun e w' => e = .returned (.int .u64 (z : Int)) ∧ wr.drew = w') := hide (by
        have h := at_any w.heap.size A n c xs ((k : Int) + (far : Int) + 1) wr.drew hx2.drew (by unfold maxLen; omega)
        rwa [ez.out] at h)
      rw [hr] at hrow
      have hjl : k < (us ++ List.replicate (r + 1) 0).length := by rw [fill_len, hu.out]; omega
      obtain ⟨v0, hc0⟩ : ∃ v0 : Int, wr.drew.cell? ⟨w.heap.size, k, none⟩ = some (.int .u64 v0) := ⟨_, by have h := hrow.drew.cell hjl; rw [Nat.zero_add] at h; exact h⟩
      have hfr := hrow.drew.frozen k
      have hst := hrow.drew.set_ hjl o
      have es : (us ++ List.replicate (r + 1) 0).set k o = (us ++ [o]) ++ List.replicate (size - (k + 1)) 0 := by
        have h := fill_set us r o
        rw [hu.out] at h
        rw [h]; congr 2; omega
      rw [es, Nat.zero_add] at hst
      have ek : ((k + 1 : Nat) : Int) + (far : Int) = (k : Int) + (far : Int) + 1 := by omega
      have fin : DnRel 62 w size far s r0 xs (.int .i64 ((k + 1 : Nat) : Int)) (wr.drew.setCell ⟨w.heap.size, k, none⟩ (.int .u64 (o : Int))) :=
        ⟨k + 1, us ++ [o], by omega, rfl, hide (by simp [hu.out]), du.append (Dg.cons bo Dg.nil), hide (by rw [ek, ez.out]; exact hv1), hst, (below_drewN hbel 1).setCell (Nat.le_refl _) _⟩
      have i1 : (k : Int) < (size : Int) := by omega
      clear hst es hv hv0 hv1 hu du hrow hbel hx2 ex ez bx hcc bo hy ho hr hjl ek Hx Dx hpow hV hr0
      go_wp2_with fail
      go_region_held3 (fun _ => True) (first | trivial | exact True.intro)
        (first
          | (go_at_call 96; (with_reducible refine atx.out.mono ?_); rintro e w' ⟨rfl, rfl⟩)
          | (go_at_call 96; (with_reducible refine atz.out.mono ?_); rintro e w' ⟨rfl, rfl⟩))
      all_goals
        go_wp2_with fail
        go_roundw
        case rel => exact fin
        case measure => simp [intOf]; omega
    · obtain rfl : k = size := by omega
      simp only [Nat.sub_self, List.replicate_zero, List.append_nil] at hrow
      have e := hv.out
      have hn1 := Hx.out.1
      have ez0 : atN xs ((k : Int) + (far : Int)) = 0 := by
        unfold atN
        rw [if_neg (by omega)]
        have h9 : xs.length ≤ ((k : Int) + (far : Int)).toNat := by omega
        simp [List.getD_eq_getElem?_getD, List.getElem?_eq_none h9]
      rw [ez0, Nat.zero_mod, Nat.mul_zero, Nat.add_zero, List.take_of_length_le (by rw [List.length_drop]; omega)] at e
      have hr1 : r0 < 2 ^ s := by rw [← hr0.out]; exact Nat.mod_lt _ (Nat.pow_pos (by omega))
      have fin : WordsRet 62 w k V (.returned (.slice (some ⟨w.heap.size, 0, none⟩) k k)) wr := by
        refine ⟨us, rfl, hu.out, du, ?_, hrow, hbel⟩
        rw [← hV.out, hpow.out, ← e, Nat.add_comm, Nat.add_mul_div_right _ _ (Nat.pow_pos (by omega)), Nat.div_eq_of_lt hr1, Nat.zero_add]
      clear e hrow hv hu du hbel Hx Dx hpow hV hr0 hr1 ez0 hn1
      go_wp2_with fail
      go_ret
      exact fin
def IsBits (X b : Nat) : Prop := X < 2 ^ b ∧ (b ≠ 0 → 2 ^ (b - 1) ≤ X)
theorem IsBits.zero : IsBits 0 0 := ⟨by omega, fun h => absurd rfl h⟩
theorem IsBits.one {X b c : Nat} (h : IsBits X b) (k : IsBits X c) : b = c := by
  rcases Nat.lt_trichotomy b c with hlt | h' | hlt
  · have h1 := k.2 (by omega)
    have h2 : 2 ^ b ≤ 2 ^ (c - 1) := Nat.pow_le_pow_right (by omega) (by omega)
    have := h.1
    omega
  · exact h'
  · have h1 := h.2 (by omega)
    have h2 : 2 ^ c ≤ 2 ^ (b - 1) := Nat.pow_le_pow_right (by omega) (by omega)
    have := k.1
    omega
theorem isBits_top {m t : Nat} {zs : List Nat} (hz : zs.length = m + 1) (dz : Dg Q zs) (ht : zs.getD m 0 = t) (h0 : t ≠ 0) : IsBits (vl Q zs) (m * 64 + Lib.bitLen t) := by
  have hq : Q = 2 ^ 64 := rfl
  have htQ : t < Q := by rw [← ht]; exact dz.getD Q_pos m
  obtain ⟨h1, h2, h3⟩ := Lib.bitLenAux_bounds 64 t (by rw [← hq]; exact htQ) h0
  have e : Lib.bitLen t = Lib.bitLenAux 64 t := rfl
  rw [← e] at h1 h2 h3
  have hv : vl Q zs = vl Q (zs.take m) + Q ^ m * t := by
    have h := vl_take_succ Q zs m
    rwa [List.take_of_length_le (by omega), ht] at h
  have hl : vl Q (zs.take m) < Q ^ m := by
    have h := vl_lt (dz.take m)
    exact Nat.lt_of_lt_of_le h (Nat.pow_le_pow_right Q_pos (by rw [List.length_take]; omega))
  have hp : Q ^ m = 2 ^ (m * 64) := by rw [hq, ← Nat.pow_mul, Nat.mul_comm]
  rw [hp] at hl hv
  generalize Lib.bitLen t = b at *
  refine ⟨?_, fun _ => ?_⟩
  · rw [Nat.pow_add]
    have h4 : 2 ^ (m * 64) * (t + 1) ≤ 2 ^ (m * 64) * 2 ^ b := Nat.mul_le_mul_left _ h3
    rw [Nat.mul_add] at h4
    omega
  · rw [show m * 64 + b - 1 = m * 64 + (b - 1) by omega, Nat.pow_add]
    have h4 : 2 ^ (m * 64) * 2 ^ (b - 1) ≤ 2 ^ (m * 64) * t := Nat.mul_le_mul_left _ h2
    omega
set_option maxHeartbeats 2000000 in
theorem nbits_n {w : World} {u : Value} {x L : Nat} (hu : Nw w u x L) (hL : L ≤ 17592186044000) :
    Calls Tryz.prog 57 #[u] w fun e w' => ∃ b : Nat, e = .returned (.int .i64 (b : Int)) ∧ IsBits x b ∧ w = w' := by
  obtain ⟨A, n, c, xs, rfl, hx, dx, hnc, hc, rfl, hn⟩ := hu
  obtain ⟨A', c', hpc, hcm, hx', -, cx⟩ := clip_get _ A n c xs w hx hnc hc
  have lx := tz_length_le xs
  have hx1 := hx.1
  have dt := tz_dg dx
  have hidem := tz_idem xs
  rw [← tz_vl]
  generalize tz xs = zs at *
  have hzl := hx'.1
  rcases Nat.eq_zero_or_pos zs.length with h0 | h0
  · have hz : zs = [] := List.eq_nil_of_length_eq_zero h0
    subst hz
    rw [List.length_nil] at cx
    clear hx hx' dx dt
    go_enter Tryz.func57, Tryz.ntmps57
    go_wp2_with fail
    refine cx.mono ?_
    rintro e w_ ⟨rfl, rfl⟩
    go_wp2_with fail
    go_ret
    exact ⟨0, rfl, IsBits.zero, rfl⟩
  · obtain ⟨m, hm⟩ : ∃ m, zs.length = m + 1 := ⟨zs.length - 1, by omega⟩
    obtain ⟨t, ht⟩ : ∃ t, zs.getD m 0 = t := ⟨_, rfl⟩
    have ht0 : t ≠ 0 := by
      intro h
      have h1 := tz_step_zero zs m (by omega) (by rw [ht, h])
      rw [List.take_of_length_le (by omega), hidem] at h1
      have h2 := congrArg List.length h1
      have h3 := tz_length_le (zs.take m)
      rw [List.length_take] at h3
      omega
    have hb := isBits_top hm dt ht ht0
    have htQ : t < Q := by rw [← ht]; exact dt.getD Q_pos m
    obtain ⟨b, o, hA, _, hcell⟩ := hx'.at_ (show m < zs.length by omega)
    subst hA
    rw [ht] at hcell
    rw [hm] at cx
    have hlen := Tryz.bits_Len64 (t : Int) w (by omega) (by unfold Q at htQ; omega)
    rw [Int.toNat_natCast] at hlen
    have hlb : Lib.bitLen t ≤ 64 := Lib.bitLen_le t 64 (Nat.le_refl _) htQ
    have Fin := hide hb
    have i1 : (m : Int) ≤ 17592186044000 := by omega
    generalize Lib.bitLen t = bl at *
    clear hb hx hx' dx dt hidem hm ht ht0 htQ hzl hx1 lx h0 hpc
    go_enter Tryz.func57, Tryz.ntmps57
    go_wp2_with fail
    refine cx.mono ?_
    rintro e w_ ⟨rfl, rfl⟩
    go_wp2_with (go_at_call 83; refine hlen.mono ?_; rintro e w' ⟨rfl, rfl⟩)
    go_ret
    exact ⟨m * 64 + bl, by rw [Int.natCast_add, Int.natCast_mul]; rfl, Fin.out, rfl⟩
theorem isBits_ex (x : Nat) : ∃ b, IsBits x b := by
  by_cases h : x = 0
  · exact ⟨0, by rw [h]; exact IsBits.zero⟩
  · exact ⟨x.log2 + 1, Nat.lt_log2_self, fun _ => by rw [Nat.add_sub_cancel]; exact Nat.log2_self_le h⟩
theorem nbits_s {w : World} {u : Value} {x L b : Nat} (hu : Nw w u x L) (hb : IsBits x b) (hL : L ≤ 17592186044000) :
    Calls Tryz.prog 57 #[u] w fun e w' => e = .returned (.int .i64 (b : Int)) ∧ w = w' :=
  (nbits_n hu hL).mono fun e w' ⟨c, he, hc, hw⟩ => ⟨by rw [he, hc.one hb], hw⟩
theorem tk_step {k v wv z ov bw : Nat} {us zs ys : List Nat} (hu : us.length = k) (hz : zs.getD k 0 = z) (hy : ys.getD k 0 = v) (bz : z < Q) (hbw : bw ≤ 1)
    (h : vl Q us + wv * vl Q (ys.take k) = vl Q (zs.take k) + Q ^ k * (bw + ov)) :
    vl Q (us ++ [subLo z (addLo (mulLo v wv) ov 0) bw]) + wv * vl Q (ys.take (k + 1)) = vl Q (zs.take (k + 1)) + Q ^ (k + 1) * (subBw z (addLo (mulLo v wv) ov 0) bw + (mulHi v wv + addCy (mulLo v wv) ov 0)) := by
  rw [vl_snoc, hu, take_next zs k z hz, take_next ys k v hy, Nat.pow_succ]
  have e1 := mul_spec v wv
  have e2 := add_spec (mulLo v wv) ov 0
  have e3 := sub_spec (addLo_lt (mulLo v wv) ov 0) bz hbw
  generalize addLo (mulLo v wv) ov 0 = l1 at *
  generalize addCy (mulLo v wv) ov 0 = c1 at *
  generalize subLo z l1 bw = l2 at *
  generalize subBw z l1 bw = c2 at *
  generalize mulHi v wv = hi at *
  generalize mulLo v wv = lo at *
  have key : l2 + v * wv + (bw + ov) = z + Q * (c2 + (hi + c1)) := by
    rw [Nat.mul_add, Nat.mul_add]; omega
  have e4 : Q ^ k * l2 + wv * (Q ^ k * v) + Q ^ k * (bw + ov) = Q ^ k * z + Q ^ k * Q * (c2 + (hi + c1)) := by
    rw [Nat.mul_assoc (Q ^ k) Q, ← Nat.mul_add, ← key, Nat.mul_add (Q ^ k) (l2 + v * wv), Nat.mul_add (Q ^ k) l2, Nat.mul_left_comm wv, Nat.mul_comm wv v]
  rw [Nat.mul_add wv]
  omega
theorem tk_bound {v wv ov : Nat} (hv : v < Q) (hw : wv < Q) (ho : ov < Q) : mulHi v wv + addCy (mulLo v wv) ov 0 < Q := by
  have e1 := mul_spec v wv
  have e2 := add_spec (mulLo v wv) ov 0
  have h := mul_add_two hv hw ho Q_pos
  have key : Q * (mulHi v wv + addCy (mulLo v wv) ov 0) ≤ v * wv + ov + 0 := by
    rw [Nat.mul_add]; omega
  exact Nat.lt_of_mul_lt_mul_left (Nat.lt_of_le_of_lt key h)
theorem tk_end {n wv z ov bw : Nat} {us zs ys : List Nat} (hu : us.length = n) (hzl : zs.length = n + 1) (hyl : ys.length = n) (hz : zs.getD n 0 = z) (bz : z < Q) (hbw : bw ≤ 1) (ho : ov < Q)
    (h : vl Q us + wv * vl Q (ys.take n) = vl Q (zs.take n) + Q ^ n * (bw + ov)) :
    vl Q (us ++ [subLo z ov bw]) + wv * vl Q ys = vl Q zs + Q ^ (n + 1) * subBw z ov bw := by
  have e0 := take_next zs n z hz
  rw [List.take_of_length_le (by omega)] at e0
  rw [List.take_of_length_le (by omega)] at h
  rw [vl_snoc, hu, e0, Nat.pow_succ]
  have e3 := sub_spec ho bz hbw
  generalize subLo z ov bw = l2 at *
  generalize subBw z ov bw = c2 at *
  have e4 : Q ^ n * l2 + Q ^ n * (bw + ov) = Q ^ n * z + Q ^ n * Q * c2 := by
    rw [Nat.mul_assoc, ← Nat.mul_add, ← Nat.mul_add]
    congr 1
    omega
  omega
def TkRet (t : TypeId) (w : World) (g off : Nat) (C : Array Value) (n V P : Nat) (e : Ending) (w' : World) : Prop :=
  ∃ (bw : Nat) (us : List Nat), e = .returned (.bool (decide (bw = 1))) ∧ bw ≤ 1 ∧ us.length = n + 1 ∧ Dg Q us ∧ vl Q us + P = V + Q ^ (n + 1) * bw ∧ Row .u64 t w' g off C us ∧ w.grownBy w' (some g)
def PbRet (t : TypeId) (w : World) (g off : Nat) (C : Array Value) (n S : Nat) (e : Ending) (w' : World) : Prop :=
  ∃ (cy : Nat) (us : List Nat), e = .returned (.bool (decide (cy = 1))) ∧ cy ≤ 1 ∧ us.length = n + 1 ∧ Dg Q us ∧ vl Q us + Q ^ (n + 1) * cy = S ∧ Row .u64 t w' g off C us ∧ w.grownBy w' (some g)
def TkRel (w : World) (g off n wv : Nat) (C : Array Value) (zs ys : List Nat) (cv bv iv : Value) (wr : World) : Prop :=
  ∃ (k ov bw : Nat) (us : List Nat), k ≤ n ∧ iv = .int .i64 (k : Int) ∧ cv = .int .u64 (ov : Int) ∧ bv = .int .u64 (bw : Int) ∧ ov < Q ∧ bw ≤ 1 ∧ Hid (us.length = k) ∧ Dg Q us ∧
    Hid (vl Q us + wv * vl Q (ys.take k) = vl Q (zs.take k) + Q ^ k * (bw + ov)) ∧ Row .u64 62 wr g off C (us ++ zs.drop k) ∧ w.grownBy wr (some g)
set_option maxHeartbeats 4000000 in
theorem takeTimes_any (B g off n c d wv : Nat) (D : Option Addr) (C : Array Value) (zs ys : List Nat) (w : World)
    (hr : Row .u64 62 w g off C zs) (hzn : zs.length = n + 1) (hy : Rd .u64 w B D n ys) (hB : B ≤ w.heap.size) (hD : 0 < n → ∀ a, D = some a → a.block ≠ g)
    (dz : Dg Q zs) (dy : Dg Q ys) (hw : wv < Q) (hn : n ≤ 4611686018427387904) :
    Calls Tryz.prog 123 #[.slice (some ⟨g, off, none⟩) (n + 1) c, .slice D n d, .int .u64 (wv : Int)] w (TkRet 62 w g off C n (vl Q zs) (wv * vl Q ys)) := by
  have e0 : Hid (vl Q ([] : List Nat) + wv * vl Q (ys.take 0) = vl Q (zs.take 0) + Q ^ 0 * (0 + 0)) := hide (by simp [vl])
  have Hz := hide hzn
  have Dz := hide dz
  have Dy := hide dy
  clear hzn dz dy
  go_enter Tryz.func123, Tryz.ntmps123
  go_wp2_with fail
  go_loopw [7, 8, 16] (fun cv bv iv wr => TkRel w g off n wv C zs ys cv bv iv wr) (fun _ _ iv _ => n - (intOf iv).toNat)
  case atStart => exact ⟨0, 0, 0, [], by omega, rfl, rfl, rfl, Q_pos, by omega, hide rfl, Dg.nil, e0, by simpa using hr, only_refl _ _⟩
  case round =>
    obtain ⟨k, ov, bw, us, hk, rfl, rfl, rfl, hov, hbw, hu, du, hv, hrow, hg⟩ := hrel
    clear e0 hr
    by_cases hlt : k < n
    · obtain ⟨z, ez⟩ : ∃ z, Hid (zs.getD k 0 = z) := ⟨_, hide rfl⟩
      obtain ⟨v, ev⟩ : ∃ v, Hid (ys.getD k 0 = v) := ⟨_, hide rfl⟩
      have bz : z < Q := by rw [← ez.out]; exact Dz.out.getD Q_pos k
      have bv : v < Q := by rw [← ev.out]; exact Dy.out.getD Q_pos k
      have hkz : k < zs.length := by rw [Hz.out]; omega
      have hll : k < (us ++ zs.drop k).length := by have := hu.out; have := Hz.out; simp; omega
      have hcell := hrow.cell hll
      rw [drop_getD us zs hu.out, ez.out] at hcell
      have hfr := hrow.frozen (off + k)
      have hy2 := hy.grownOff hg hB (hD (by omega))
      obtain ⟨bb, bo, rfl, _, hcy⟩ := hy2.at_ hlt
      rw [ev.out] at hcy
      have hst := hrow.set_ hll (subLo z (addLo (mulLo v wv) ov 0) bw)
      rw [drop_set us zs hu.out hkz] at hst
      have hv2 := hide (tk_step hu.out ez.out ev.out bz hbw hv.out)
      have hbd := tk_bound bv hw hov
      have hb1 := subBw_le z (addLo (mulLo v wv) ov 0) bw
      have hg2 := only_set (p := ⟨g, off + k, none⟩) hg rfl (.int .u64 ((subLo z (addLo (mulLo v wv) ov 0) bw : Nat) : Int))
      have fin : TkRel w g off n wv C zs ys (.int .u64 ((mulHi v wv + addCy (mulLo v wv) ov 0 : Nat) : Int)) (.int .u64 ((subBw z (addLo (mulLo v wv) ov 0) bw : Nat) : Int)) (.int .i64 ((k + 1 : Nat) : Int))
          (wr.setCell ⟨g, off + k, none⟩ (.int .u64 ((subLo z (addLo (mulLo v wv) ov 0) bw : Nat) : Int))) :=
        ⟨k + 1, _, _, _, by omega, rfl, rfl, rfl, hbd, hb1, hide (by simp [hu.out]), du.append (Dg.cons (subLo_lt _ _ _) Dg.nil), hv2, hst, hg2⟩
      have hm := mul64 v wv bv hw wr
      have a1 := add64_0 (mulLo v wv) ov
      have a2 := sub64 z (addLo (mulLo v wv) ov 0) bw hbw
      generalize subLo z (addLo (mulLo v wv) ov 0) bw = l2 at *
      generalize subBw z (addLo (mulLo v wv) ov 0) bw = c2 at *
      generalize addLo (mulLo v wv) ov 0 = l1 at *
      generalize addCy (mulLo v wv) ov 0 = c1 at *
      generalize mulLo v wv = lo at *
      generalize mulHi v wv = hi at *
      have b1 : (hi : Int) + (c1 : Int) ≤ 18446744073709551615 := by unfold Q at hbd; omega
      have Fin := hide fin
      clear hst hv2 hg2 hbd hu du hv hrow hg hll hkz bz bv hy hy2 hB hD Dz Dy hw hov ez ev Hz fin hb1 hbw
      go_wp2_with (go_at_call 113; refine hm.mono ?_; rintro e w' ⟨rfl, rfl⟩)
      go_roundw
      case rel => exact Fin.out
      case measure => simp [intOf]; omega
    · obtain rfl : k = n := by omega
      obtain ⟨z, ez⟩ : ∃ z, Hid (zs.getD k 0 = z) := ⟨_, hide rfl⟩
      have bz : z < Q := by rw [← ez.out]; exact Dz.out.getD Q_pos k
      have hkz : k < zs.length := by rw [Hz.out]; omega
      have hll : k < (us ++ zs.drop k).length := by have := hu.out; have := Hz.out; simp; omega
      have hcell := hrow.cell hll
      rw [drop_getD us zs hu.out, ez.out] at hcell
      have hfr := hrow.frozen (off + k)
      have hst := hrow.set_ hll (subLo z ov bw)
      rw [drop_set us zs hu.out hkz, List.drop_eq_nil_of_le (by rw [Hz.out]; omega), List.append_nil] at hst
      have hv2 := hide (tk_end hu.out Hz.out hy.1 ez.out bz hbw hov hv.out)
      have hb1 := subBw_le z ov bw
      have hg2 := only_set (p := ⟨g, off + k, none⟩) hg rfl (.int .u64 ((subLo z ov bw : Nat) : Int))
      have a2 := sub64 z ov bw hbw
      have hl2 := subLo_lt z ov bw
      generalize subLo z ov bw = l2 at *
      generalize subBw z ov bw = c2 at *
      have fin : TkRet 62 w g off C k (vl Q zs) (wv * vl Q ys) (.returned (.bool (decide (c2 = 1)))) (wr.setCell ⟨g, off + k, none⟩ (.int .u64 (l2 : Int))) :=
        ⟨c2, us ++ [l2], rfl, hb1, by simp [hu.out], du.append (Dg.cons hl2 Dg.nil), hv2.out, hst, hg2⟩
      have Fin := hide fin
      have i1 : (k : Int) < (k : Int) + 1 := by omega
      clear hst hv2 hg2 hu du hv hrow hg hll hkz bz hy hB hD Dz Dy hw hov ez Hz fin hbw hl2
      rcases Nat.eq_zero_or_pos c2 with h | h
      · subst h
        have t0 : (((0 : Int)) != 0) = false := rfl
        go_wp2_with fail
        go_ret
        exact Fin.out
      · obtain rfl : c2 = 1 := by omega
        have t0 : (((1 : Int)) != 0) = true := rfl
        go_wp2_with fail
        go_ret
        exact Fin.out
theorem pb_end {n z cy : Nat} {us zs ys : List Nat} (hu : us.length = n) (hzl : zs.length = n + 1) (hyl : ys.length = n) (hz : zs.getD n 0 = z)
    (h : vl Q us + Q ^ n * cy = vl Q (zs.take n) + vl Q (ys.take n)) :
    vl Q (us ++ [addLo z 0 cy]) + Q ^ (n + 1) * addCy z 0 cy = vl Q zs + vl Q ys := by
  have e0 := take_next zs n z hz
  rw [List.take_of_length_le (by omega)] at e0
  rw [List.take_of_length_le (show ys.length ≤ n by omega)] at h
  rw [vl_snoc, hu, e0, Nat.pow_succ]
  have e3 := add_spec z 0 cy
  generalize addLo z 0 cy = l2 at *
  generalize addCy z 0 cy = c2 at *
  have e4 : Q ^ n * l2 + Q ^ n * Q * c2 = Q ^ n * z + Q ^ n * cy := by
    rw [Nat.mul_assoc, ← Nat.mul_add, ← Nat.mul_add]
    congr 1
  omega
def PbRel (w : World) (g off n : Nat) (C : Array Value) (zs ys : List Nat) (cv iv : Value) (wr : World) : Prop :=
  ∃ (k cy : Nat) (us : List Nat), k ≤ n ∧ iv = .int .i64 (k : Int) ∧ cv = .int .u64 (cy : Int) ∧ cy ≤ 1 ∧ Hid (us.length = k) ∧ Dg Q us ∧
    Hid (vl Q us + Q ^ k * cy = vl Q (zs.take k) + vl Q (ys.take k)) ∧ Row .u64 62 wr g off C (us ++ zs.drop k) ∧ w.grownBy wr (some g)
set_option maxHeartbeats 4000000 in
theorem putBack_any (B g off n c d : Nat) (D : Option Addr) (C : Array Value) (zs ys : List Nat) (w : World)
    (hr : Row .u64 62 w g off C zs) (hzn : zs.length = n + 1) (hy : Rd .u64 w B D n ys) (hB : B ≤ w.heap.size) (hD : 0 < n → ∀ a, D = some a → a.block ≠ g)
    (dz : Dg Q zs) (dy : Dg Q ys) (hn : n ≤ 4611686018427387904) :
    Calls Tryz.prog 124 #[.slice (some ⟨g, off, none⟩) (n + 1) c, .slice D n d] w (PbRet 62 w g off C n (vl Q zs + vl Q ys)) := by
  have e0 : Hid (vl Q ([] : List Nat) + Q ^ 0 * 0 = vl Q (zs.take 0) + vl Q (ys.take 0)) := hide (by simp [vl])
  have Hz := hide hzn
  have Dz := hide dz
  have Dy := hide dy
  clear hzn dz dy
  go_enter Tryz.func124, Tryz.ntmps124
  go_wp2_with fail
  go_loopw [5, 10] (fun cv iv wr => PbRel w g off n C zs ys cv iv wr) (fun _ iv _ => n - (intOf iv).toNat)
  case atStart => exact ⟨0, 0, [], by omega, rfl, rfl, by omega, hide rfl, Dg.nil, e0, by simpa using hr, only_refl _ _⟩
  case round =>
    obtain ⟨k, cy, us, hk, rfl, rfl, hcy, hu, du, hv, hrow, hg⟩ := hrel
    clear e0 hr
    by_cases hlt : k < n
    · obtain ⟨z, ez⟩ : ∃ z, Hid (zs.getD k 0 = z) := ⟨_, hide rfl⟩
      obtain ⟨v, ev⟩ : ∃ v, Hid (ys.getD k 0 = v) := ⟨_, hide rfl⟩
      have bz : z < Q := by rw [← ez.out]; exact Dz.out.getD Q_pos k
      have bv : v < Q := by rw [← ev.out]; exact Dy.out.getD Q_pos k
      have hkz : k < zs.length := by rw [Hz.out]; omega
      have hll : k < (us ++ zs.drop k).length := by have := hu.out; have := Hz.out; simp; omega
      have hcell := hrow.cell hll
      rw [drop_getD us zs hu.out, ez.out] at hcell
      have hfr := hrow.frozen (off + k)
      have hy2 := hy.grownOff hg hB (hD (by omega))
      obtain ⟨bb, bo, rfl, _, hcyl⟩ := hy2.at_ hlt
      rw [ev.out] at hcyl
      have hst := hrow.set_ hll (addLo z v cy)
      rw [drop_set us zs hu.out hkz] at hst
      have hv2 := hide (add_step hu.out ez.out ev.out hv.out)
      have hb1 := addCy_le bz bv hcy
      have hg2 := only_set (p := ⟨g, off + k, none⟩) hg rfl (.int .u64 ((addLo z v cy : Nat) : Int))
      have fin : PbRel w g off n C zs ys (.int .u64 ((addCy z v cy : Nat) : Int)) (.int .i64 ((k + 1 : Nat) : Int)) (wr.setCell ⟨g, off + k, none⟩ (.int .u64 ((addLo z v cy : Nat) : Int))) :=
        ⟨k + 1, _, _, by omega, rfl, rfl, hb1, hide (by simp [hu.out]), du.append (Dg.cons (addLo_lt _ _ _) Dg.nil), hv2, hst, hg2⟩
      have a2 := add64 z v cy hcy
      generalize addLo z v cy = l2 at *
      generalize addCy z v cy = c2 at *
      have Fin := hide fin
      clear hst hv2 hg2 hu du hv hrow hg hll hkz bz bv hy hy2 hB hD Dz Dy ez ev Hz fin hb1 hcy
      go_wp2_with fail
      go_roundw
      case rel => exact Fin.out
      case measure => simp [intOf]; omega
    · obtain rfl : k = n := by omega
      obtain ⟨z, ez⟩ : ∃ z, Hid (zs.getD k 0 = z) := ⟨_, hide rfl⟩
      have bz : z < Q := by rw [← ez.out]; exact Dz.out.getD Q_pos k
      have hkz : k < zs.length := by rw [Hz.out]; omega
      have hll : k < (us ++ zs.drop k).length := by have := hu.out; have := Hz.out; simp; omega
      have hcell := hrow.cell hll
      rw [drop_getD us zs hu.out, ez.out] at hcell
      have hfr := hrow.frozen (off + k)
      have hst := hrow.set_ hll (addLo z 0 cy)
      rw [drop_set us zs hu.out hkz, List.drop_eq_nil_of_le (by rw [Hz.out]; omega), List.append_nil] at hst
      have hv2 := hide (pb_end hu.out Hz.out hy.1 ez.out hv.out)
      have hb1 := addCy_le bz Q_pos hcy
      have hg2 := only_set (p := ⟨g, off + k, none⟩) hg rfl (.int .u64 ((addLo z 0 cy : Nat) : Int))
      have a2 : ∀ w, (callFunc 114 #[.int .u64 (z : Int), .int .u64 0, .int .u64 (cy : Int)]).run Tryz.prog w = .ok (.value (.tuple #[.int .u64 ((addLo z 0 cy : Nat) : Int), .int .u64 ((addCy z 0 cy : Nat) : Int)])) w := add64 z 0 cy hcy
      have hl2 := addLo_lt z 0 cy
      generalize addLo z 0 cy = l2 at *
      generalize addCy z 0 cy = c2 at *
      have fin : PbRet 62 w g off C k (vl Q zs + vl Q ys) (.returned (.bool (decide (c2 = 1)))) (wr.setCell ⟨g, off + k, none⟩ (.int .u64 (l2 : Int))) :=
        ⟨c2, us ++ [l2], rfl, hb1, by simp [hu.out], du.append (Dg.cons hl2 Dg.nil), hv2.out, hst, hg2⟩
      have Fin := hide fin
      have i1 : (k : Int) < (k : Int) + 1 := by omega
      clear hst hv2 hg2 hu du hv hrow hg hll hkz bz hy hB hD Dz Dy ez Hz fin hcy hl2
      rcases Nat.eq_zero_or_pos c2 with h | h
      · subst h
        have t0 : (((0 : Int)) != 0) = false := rfl
        go_wp2_with fail
        go_ret
        exact Fin.out
      · obtain rfl : c2 = 1 := by omega
        have t0 : (((1 : Int)) != 0) = true := rfl
        go_wp2_with fail
        go_ret
        exact Fin.out
section
variable {p V Y a0 a1 a2 b1 b2 q r : Nat}
theorem top2 {zs : List Nat} {n p : Nat} (hn : n = p + 1) (hz : zs.length = n + 1) (dz : Dg Q zs) (h0 : zs.getD n 0 = a0) (h1 : zs.getD p 0 = a1) : vl Q zs < (a0 * Q + a1 + 1) * Q ^ p := by
  have e0 := take_next zs n a0 h0
  rw [List.take_of_length_le (by omega), hn, take_next zs p a1 h1, Nat.pow_succ] at e0
  have h := vl_take_lt Q_pos dz p
  rw [e0, Nat.add_mul, Nat.add_mul, Nat.one_mul]
  have e1 : Q ^ p * Q * a0 = a0 * Q * Q ^ p := by rw [Nat.mul_comm, Nat.mul_comm (Q ^ p), Nat.mul_assoc]
  have e2 : Q ^ p * a1 = a1 * Q ^ p := Nat.mul_comm _ _
  omega
theorem top3 {zs : List Nat} {n p k : Nat} (hn : n = p + 1) (hp : p = k + 1) (hz : zs.length = n + 1) (dz : Dg Q zs) (h0 : zs.getD n 0 = a0) (h1 : zs.getD p 0 = a1) (h2 : zs.getD k 0 = a2) :
    vl Q zs < ((a0 * Q + a1) * Q + a2 + 1) * Q ^ k := by
  have e0 := take_next zs n a0 h0
  rw [List.take_of_length_le (by omega), hn, take_next zs p a1 h1, hp, take_next zs k a2 h2] at e0
  simp only [Nat.pow_succ] at e0
  have h := vl_take_lt Q_pos dz k
  rw [e0]
  generalize Q ^ k = K at *
  have e1 : K * Q * Q * a0 = a0 * Q * Q * K := by ac_rfl
  have e2 : K * Q * a1 = a1 * Q * K := by ac_rfl
  have e3 : K * a2 = a2 * K := Nat.mul_comm _ _
  rw [Nat.add_mul, Nat.add_mul, Nat.add_mul, Nat.add_mul, Nat.one_mul]
  omega
theorem bot1 {ys : List Nat} {n p : Nat} (hn : n = p + 1) (hy : ys.length = n) (h1 : ys.getD p 0 = b1) : b1 * Q ^ p ≤ vl Q ys := by
  have e0 := take_next ys p b1 h1
  rw [List.take_of_length_le (by omega)] at e0
  rw [e0, Nat.mul_comm]
  omega
theorem bot2 {ys : List Nat} {n p k : Nat} (hn : n = p + 1) (hp : p = k + 1) (hy : ys.length = n) (h1 : ys.getD p 0 = b1) (h2 : ys.getD k 0 = b2) : (b1 * Q + b2) * Q ^ k ≤ vl Q ys := by
  have e0 := take_next ys p b1 h1
  rw [List.take_of_length_le (by omega), hp, take_next ys k b2 h2, Nat.pow_succ] at e0
  rw [e0, Nat.add_mul]
  generalize Q ^ k = K at *
  have e2 : K * Q * b1 = b1 * Q * K := by rw [Nat.mul_comm, Nat.mul_comm K, Nat.mul_assoc]
  have e3 : K * b2 = b2 * K := Nat.mul_comm _ _
  omega
theorem quo_top {V Y t s P : Nat} (hV : V < (t + 1) * P) (hY : s * P ≤ Y) (hs : 0 < s) : V / Y * s ≤ t := by
  have h1 : V / Y * Y ≤ V := Nat.div_mul_le_self _ _
  have h2 : V / Y * (s * P) ≤ V / Y * Y := Nat.mul_le_mul_left _ hY
  have h3 : V / Y * s * P < (t + 1) * P := by rw [Nat.mul_assoc]; omega
  have := Nat.lt_of_mul_lt_mul_right h3
  omega
theorem guess_down {t T : Nat} (h3 : T * (b1 * Q + b2) ≤ t * Q + a2) (he : q * b1 + r = t) (hgt : r * Q + a2 < q * b2) : T + 1 ≤ q := by
  rcases Nat.lt_or_ge T q with h | h
  · exact h
  · have h1 : q * (b1 * Q + b2) ≤ T * (b1 * Q + b2) := Nat.mul_le_mul_right _ h
    have h2 : q * (b1 * Q + b2) = q * b1 * Q + q * b2 := by rw [Nat.mul_add, Nat.mul_assoc]
    have h4 : t * Q = q * b1 * Q + r * Q := by rw [← he, Nat.add_mul]
    omega
end
def GsRel (t b1 T : Nat) (qv rv : Value) : Prop :=
  ∃ q r : Nat, qv = .int .u64 (q : Int) ∧ rv = .int .u64 (r : Int) ∧ q < Q ∧ r < Q ∧ Hid (q * b1 + r = t) ∧ Hid (T ≤ q)
def GsRet (w : World) (T : Nat) (e : Ending) (w' : World) : Prop := ∃ q : Nat, e = .returned (.int .u64 (q : Int)) ∧ q < Q ∧ T ≤ q ∧ ∃ m, w' = w.drewN m
set_option maxHeartbeats 4000000 in
theorem guess_any (B : Nat) (A D : Option Addr) (n c d : Nat) (zs ys : List Nat) (w : World) (hx : Rd .u64 w B A (n + 1) zs) (hy : Rd .u64 w B D n ys) (dz : Dg Q zs) (dy : Dg Q ys)
    (hn2 : 2 ≤ n) (hn : n ≤ 4611686018427387904) (htop : 0 < ys.getD (n - 1) 0) (hV : vl Q zs < vl Q ys * Q) :
    Calls Tryz.prog 122 #[.slice A (n + 1) c, .slice D n d] w (GsRet w (vl Q zs / vl Q ys)) := by
  obtain ⟨p1, hp1⟩ : ∃ p1, n = p1 + 1 := ⟨n - 1, by omega⟩
  obtain ⟨p2, hp2⟩ : ∃ p2, p1 = p2 + 1 := ⟨p1 - 1, by omega⟩
  rw [show n - 1 = p1 by omega] at htop
  obtain ⟨a0, ha0⟩ : ∃ a0, zs.getD n 0 = a0 := ⟨_, rfl⟩
  obtain ⟨a1, ha1⟩ : ∃ a1, zs.getD p1 0 = a1 := ⟨_, rfl⟩
  obtain ⟨a2, ha2⟩ : ∃ a2, zs.getD p2 0 = a2 := ⟨_, rfl⟩
  obtain ⟨b1, hb1⟩ : ∃ b1, ys.getD p1 0 = b1 := ⟨_, rfl⟩
  obtain ⟨b2, hb2⟩ : ∃ b2, ys.getD p2 0 = b2 := ⟨_, rfl⟩
  have q0 : a0 < Q := by rw [← ha0]; exact dz.getD Q_pos _
  have q1 : a1 < Q := by rw [← ha1]; exact dz.getD Q_pos _
  have q2 : a2 < Q := by rw [← ha2]; exact dz.getD Q_pos _
  have r1 : b1 < Q := by rw [← hb1]; exact dy.getD Q_pos _
  have r2 : b2 < Q := by rw [← hb2]; exact dy.getD Q_pos _
  rw [hb1] at htop
  have hY1 := bot1 hp1 hy.1 hb1
  have hT2 := quo_top (top2 hp1 hx.1 dz ha0 ha1) hY1 htop
  have hY2 := bot2 hp1 hp2 hy.1 hb1 hb2
  have hT3 := quo_top (top3 hp1 hp2 hx.1 dz ha0 ha1 ha2) hY2 (by
    have : 1 * Q ≤ b1 * Q := Nat.mul_le_mul_right _ htop
    have := Q_pos
    omega)
  have hTQ : vl Q zs / vl Q ys < Q := by
    rw [Nat.div_lt_iff_lt_mul (Nat.pos_of_ne_zero (by
      intro h
      rw [h, Nat.zero_mul] at hV
      omega)), Nat.mul_comm]
    exact hV
  obtain ⟨T, hT⟩ : ∃ T, Hid (vl Q zs / vl Q ys = T) := ⟨_, hide rfl⟩
  rw [hT.out] at hT2 hT3 hTQ ⊢
  obtain ⟨ba, oa, hA, _, ca0⟩ := hx.at_ (show n < n + 1 by omega)
  obtain ⟨ba1, oa1, hA1, _, ca1⟩ := hx.at_ (show p1 < n + 1 by omega)
  obtain ⟨ba2, oa2, hA2, _, ca2⟩ := hx.at_ (show p2 < n + 1 by omega)
  obtain ⟨bb, ob, hD, _, cb1⟩ := hy.at_ (show p1 < n by omega)
  obtain ⟨bb2, ob2, hD2, _, cb2⟩ := hy.at_ (show p2 < n by omega)
  subst hA
  subst hD
  cases hA1; cases hA2; cases hD2
  rw [ha0] at ca0
  rw [ha1] at ca1
  rw [ha2] at ca2
  rw [hb1] at cb1
  rw [hb2] at cb2
  have w1 : IntKind.i64.wrap ((n : Int) - 1) = (p1 : Int) := by rw [IntWalk.i64_in _ (by omega)]; omega
  have w2 : IntKind.i64.wrap ((n : Int) - 2) = (p2 : Int) := by rw [IntWalk.i64_in _ (by omega)]; omega
  have i1 : (p1 : Int) < (n : Int) := by omega
  have i2 : (p2 : Int) < (n : Int) := by omega
  have i3 : (n : Int) < (n : Int) + 1 := by omega
  have i4 : (p1 : Int) < (n : Int) + 1 := by omega
  have i5 : (p2 : Int) < (n : Int) + 1 := by omega
  have HTQ := hide hTQ
  have HT3 := hide hT3
  clear hx hy dz dy hp1 hp2 ha0 ha1 ha2 hb1 hb2 hY1 hY2 hV hTQ hT3 hT
  by_cases hge : b1 ≤ a0
  · clear hT2
    go_enter Tryz.func122, Tryz.ntmps122
    go_wp2_with fail
    go_quiet (fail)
    go_wp2_with fail
    go_ret
    exact ⟨18446744073709551615, rfl, by unfold Q; omega, by have := HTQ.out; unfold Q at this; omega, _, rfl⟩
  · have hlt : a0 < b1 := by omega
    have hdiv := fun W => div64 a0 a1 b1 W r1 q1 hlt
    have hst : GsRel (a0 * Q + a1) b1 T (.int .u64 (((a0 * Q + a1) / b1 : Nat) : Int)) (.int .u64 (((a0 * Q + a1) % b1 : Nat) : Int)) := by
      refine ⟨_, _, rfl, rfl, ?_, Nat.lt_trans (Nat.mod_lt _ htop) r1, hide (Nat.div_add_mod' _ _), hide ((Nat.le_div_iff_mul_le htop).2 hT2)⟩
      rw [Nat.div_lt_iff_lt_mul htop]
      have h5 : Q * (a0 + 1) ≤ Q * b1 := Nat.mul_le_mul_left _ hlt
      rw [Nat.mul_add, Nat.mul_comm Q a0] at h5
      omega
    obtain ⟨t2, ht2⟩ : ∃ t2, Hid (a0 * Q + a1 = t2) := ⟨_, hide rfl⟩
    rw [ht2.out] at hst
    have HT3' : Hid (T * (b1 * Q + b2) ≤ t2 * Q + a2) := hide (by rw [← ht2.out]; exact HT3.out)
    rw [ht2.out] at hdiv
    obtain ⟨q, hq⟩ : ∃ q, t2 / b1 = q := ⟨_, rfl⟩
    obtain ⟨r, hr⟩ : ∃ r, t2 % b1 = r := ⟨_, rfl⟩
    rw [hq, hr] at hdiv hst
    have Hdiv := hide hdiv
    have Hst := hide hst
    have HT := hide htop
    clear hT2 HT3 ht2 hq hr hdiv hst htop HTQ
    go_enter Tryz.func122, Tryz.ntmps122
    go_wp2_with fail
    go_quiet (fail)
    go_wp2_with fail
    replace ca0 : (w.drewN nq).cell? _ = _ := ca0
    replace ca1 : (w.drewN nq).cell? _ = _ := ca1
    replace ca2 : (w.drewN nq).cell? _ = _ := ca2
    replace cb1 : (w.drewN nq).cell? _ = _ := cb1
    replace cb2 : (w.drewN nq).cell? _ = _ := cb2
    have hdr : Hid (∀ m, ∃ k, (w.drewN nq).drewN m = w.drewN k) := hide (fun m => ⟨_, World.drewN_drewN _ _ _⟩)
    generalize w.drewN nq = W at *
    go_quiet ((go_at_call 120; exact Calls.quiet_of (Hdiv.out _)))
    go_wp2_with fail
    go_loop [6, 7] (fun qv rv => GsRel t2 b1 T qv rv) (fun qv _ => (intOf qv).toNat)
    case atStart => exact Hst.out
    case round =>
      clear Hst Hdiv
      obtain ⟨q, r, rfl, rfl, hq, hr, he, hT⟩ := hrel
      have hmul := hide (fun W => mul64 q b2 hq r2 W)
      have hms := mul_spec q b2
      have hadd := add64_0 r b1
      have has := add_spec r b1 0
      have hal := addLo_lt r b1 0
      obtain ⟨hi, hhi⟩ : ∃ hi, mulHi q b2 = hi := ⟨_, rfl⟩
      obtain ⟨lo, hlo⟩ : ∃ lo, mulLo q b2 = lo := ⟨_, rfl⟩
      have hloQ : lo < Q := by rw [← hlo]; exact mulLo_lt _ _
      rw [hhi, hlo] at hmul hms
      obtain ⟨al, hal'⟩ : ∃ al, addLo r b1 0 = al := ⟨_, rfl⟩
      obtain ⟨ac, hac'⟩ : ∃ ac, addCy r b1 0 = ac := ⟨_, rfl⟩
      rw [hal', hac'] at hadd has
      rw [hal'] at hal
      by_cases hA : hi < r
      · have fin : Hid (∀ m, GsRet w T (.returned (.int .u64 (q : Int))) (W.drewN m)) := hide (fun m => ⟨q, rfl, hq, hT.out, hdr.out m⟩)
        clear hms hadd has hal hhi hlo hal' hac' hq hr he hT hloQ HT3'
        go_wp2_with (go_at_call 113; refine (hmul.out _).mono ?_; rintro e w' ⟨rfl, rfl⟩)
        go_ret
        exact fin.out _
      · by_cases hB : hi = r ∧ lo ≤ a2
        · obtain ⟨rfl, hle⟩ := hB
          have fin : Hid (∀ m, GsRet w T (.returned (.int .u64 (q : Int))) (W.drewN m)) := hide (fun m => ⟨q, rfl, hq, hT.out, hdr.out m⟩)
          clear hms hadd has hal hhi hlo hal' hac' hq hr he hT hloQ HT3'
          go_wp2_with (go_at_call 113; refine (hmul.out _).mono ?_; rintro e w' ⟨rfl, rfl⟩)
          go_ret
          exact fin.out _
        · have hgt : r * Q + a2 < q * b2 := by
            rw [← hms]
            rcases Nat.lt_or_ge r hi with h | h
            · have h5 : Q * (r + 1) ≤ Q * hi := Nat.mul_le_mul_left _ h
              rw [Nat.mul_add, Nat.mul_comm Q r] at h5
              omega
            · have h6 : hi = r := by omega
              have h7 : a2 < lo := by
                rcases Nat.lt_or_ge a2 lo with h8 | h8
                · exact h8
                · exact absurd ⟨h6, h8⟩ hB
              rw [h6, Nat.mul_comm Q r]
              omega
          have hdn := guess_down HT3'.out he.out hgt
          obtain ⟨p, hp⟩ : ∃ p, q = p + 1 := ⟨q - 1, by omega⟩
          have ep : (q : Int) - 1 = (p : Int) := by omega
          have hpQ : p < Q := by omega
          have hTp : T ≤ p := by omega
          have ewp : IntKind.u64.wrap (p : Int) = (p : Int) := wrapN p hpQ
          have hrest : p * b1 + (r + b1) = t2 := by
            rw [← he.out, hp, Nat.add_mul]
            omega
          have hsplit : (hi = r ∧ a2 < lo) ∨ (r < hi ∧ ((hi : Int) == (r : Int)) = false) := by
            rcases Nat.lt_or_ge r hi with h | h
            · exact .inr ⟨h, beq_eq_false_iff_ne.2 (by omega)⟩
            · left
              have h6 : hi = r := by omega
              refine ⟨h6, ?_⟩
              rcases Nat.lt_or_ge a2 lo with h8 | h8
              · exact h8
              · exact absurd ⟨h6, h8⟩ hB
          by_cases hc : ac = 0
          · subst hc
            have hnx : Hid (GsRel t2 b1 T (.int .u64 (p : Int)) (.int .u64 (al : Int))) := hide ⟨p, al, rfl, rfl, hpQ, hal, hide (by rw [← hrest]; omega), hide hTp⟩
            have t0 : (((0 : Int)) != 0) = false := rfl
            have hq1 : 1 ≤ q := by omega
            have hpq : p < q := by omega
            clear hms has hal hhi hlo hal' hac' hr he hT hloQ HT3' hgt hdn hrest hp hpQ hTp hB
            rcases hsplit with ⟨rfl, h8⟩ | ⟨h8, h9⟩
            all_goals
              go_wp2_with (go_at_call 113; refine (hmul.out _).mono ?_; rintro e w' ⟨rfl, rfl⟩)
              go_round
              case rel => exact hnx.out
              case measure => simp [intOf]; omega
          · have t0 : (((ac : Int)) != 0) = true := by rw [bne_iff_ne]; omega
            have fin : Hid (∀ m, GsRet w T (.returned (.int .u64 (p : Int))) (W.drewN m)) := hide (fun m => ⟨p, rfl, hpQ, hTp, hdr.out m⟩)
            have hq1 : 1 ≤ q := by omega
            clear hms has hal hhi hlo hal' hac' hr he hT hloQ HT3' hgt hdn hrest hp hpQ hTp hB
            rcases hsplit with ⟨rfl, h8⟩ | ⟨h8, h9⟩
            all_goals
              go_wp2_with (go_at_call 113; refine (hmul.out _).mono ?_; rintro e w' ⟨rfl, rfl⟩)
              go_ret
              exact fin.out _
theorem lz_more {t s : Nat} (hs : s ≤ 63) (h : t * 2 ^ s < Q) : (t + 1) * 2 ^ s ≤ Q := by
  have hQ : Q = 2 ^ (64 - s) * 2 ^ s := by rw [← Nat.pow_add, show 64 - s + s = 64 by omega]; rfl
  rw [hQ] at h ⊢
  have := Nat.lt_of_mul_lt_mul_right h
  exact Nat.mul_le_mul_right _ this
theorem dl_top {p t s : Nat} {ys : List Nat} (hs : s ≤ 63) (hy : ys.length = p + 1) (dy : Dg Q ys) (ht : ys.getD p 0 = t) (h : t * 2 ^ s < Q) (h63 : 9223372036854775808 ≤ t * 2 ^ s) :
    2 ^ s * vl Q ys < Q ^ (p + 1) ∧ 9223372036854775808 * Q ^ p ≤ 2 ^ s * vl Q ys := by
  have e0 := take_next ys p t ht
  rw [List.take_of_length_le (by omega)] at e0
  have hl := vl_take_lt Q_pos dy p
  have hm := lz_more hs h
  constructor
  · have h1 : vl Q ys < (t + 1) * Q ^ p := by rw [e0, Nat.add_mul, Nat.one_mul, Nat.mul_comm t]; omega
    have h2 : 2 ^ s * vl Q ys < 2 ^ s * ((t + 1) * Q ^ p) := Nat.mul_lt_mul_of_pos_left h1 (Nat.pow_pos (by omega))
    have h3 : (t + 1) * 2 ^ s * Q ^ p ≤ Q * Q ^ p := Nat.mul_le_mul_right _ hm
    rw [Nat.pow_succ, Nat.mul_comm (Q ^ p)]
    refine Nat.lt_of_lt_of_le h2 (Nat.le_trans (Nat.le_of_eq ?_) h3)
    rw [← Nat.mul_assoc, Nat.mul_comm (2 ^ s)]
  · have h1 : t * Q ^ p ≤ vl Q ys := by rw [e0, Nat.mul_comm t]; omega
    have h2 : 2 ^ s * (t * Q ^ p) ≤ 2 ^ s * vl Q ys := Nat.mul_le_mul_left _ h1
    refine Nat.le_trans (Nat.le_trans (Nat.mul_le_mul_right _ h63) (Nat.le_of_eq ?_)) h2
    rw [← Nat.mul_assoc, Nat.mul_comm (2 ^ s)]
theorem dl_part {i lb Yp : Nat} {rs : List Nat} (dr : Dg Q rs) (hY : Yp < Q ^ lb) (hR : vl Q (rs.drop (i + 1)) < Yp) :
    vl Q ((rs.drop i).take (lb + 1)) = vl Q (rs.drop i) ∧ vl Q (rs.drop i) < Yp * Q ∧ vl Q (rs.drop (i + (lb + 1))) = 0 := by
  have h1 := vl_drop Q rs i
  have hx : rs.getD i 0 < Q := dr.getD Q_pos i
  have h2 : vl Q (rs.drop i) < Yp * Q := by
    rw [h1]
    have h3 : Q * (vl Q (rs.drop (i + 1)) + 1) ≤ Q * Yp := Nat.mul_le_mul_left _ hR
    rw [Nat.mul_add, Nat.mul_comm Q Yp] at h3
    omega
  have h4 := vl_cut Q (rs.drop i) (lb + 1)
  rw [List.drop_drop] at h4
  have h5 : vl Q (rs.drop (i + (lb + 1))) = 0 := by
    rcases Nat.eq_zero_or_pos (vl Q (rs.drop (i + (lb + 1)))) with h | h
    · exact h
    · have h6 : Q ^ (lb + 1) * 1 ≤ Q ^ (lb + 1) * vl Q (rs.drop (i + (lb + 1))) := Nat.mul_le_mul_left _ h
      have h7 : Yp * Q ≤ Q ^ lb * Q := Nat.mul_le_mul_right _ (Nat.le_of_lt hY)
      have h8 : Q ^ (lb + 1) = Q ^ lb * Q := Nat.pow_succ ..
      omega
  rw [h5, Nat.mul_zero, Nat.add_zero] at h4
  exact ⟨h4.symm, h2, h5⟩
theorem dl_step {i lb Yp S q : Nat} {rs qs us : List Nat} (hi : i ≤ rs.length) (hu : us.length = lb + 1) (h0 : vl Q (rs.drop (i + (lb + 1))) = 0)
    (hv : vl Q us + q * Yp = vl Q (rs.drop i)) (h : vl Q rs + Yp * Q ^ (i + 1) * vl Q qs = S) :
    vl Q (rs.take i ++ us ++ rs.drop (i + (lb + 1))) + Yp * Q ^ i * vl Q (q :: qs) = S ∧ vl Q ((rs.take i ++ us ++ rs.drop (i + (lb + 1))).drop i) = vl Q us := by
  have hl : (rs.take i).length = i := by rw [List.length_take]; omega
  constructor
  · rw [vl_append, vl_append, h0, Nat.mul_zero, Nat.add_zero, hl, ← h, vl_split Q rs i hi, ← hv, Nat.pow_succ]
    simp only [vl]
    rw [Nat.mul_add (Q ^ i), Nat.mul_add (Yp * Q ^ i)]
    have e1 : Yp * Q ^ i * q = Q ^ i * (q * Yp) := by ac_rfl
    have e2 : Yp * Q ^ i * (Q * vl Q qs) = Yp * (Q ^ i * Q) * vl Q qs := by ac_rfl
    omega
  · rw [List.append_assoc, List.drop_append_of_le_length (by omega), List.drop_of_length_le (by omega), List.nil_append, vl_append, h0, Nat.mul_zero, Nat.add_zero]
def DlOut (t : TypeId) (w : World) (G2 G3 la lb M Yp S : Nat) (bs : List Nat) (iv : Value) (wr : World) : Prop :=
  ∃ (k : Nat) (rs qs : List Nat), k ≤ M ∧ iv = .int .i64 ((k : Int) - 1) ∧ Hid (rs.length = la + 1) ∧ Hid (Dg Q rs) ∧ Hid (qs.length + k = M) ∧ Hid (Dg Q qs) ∧
    Hid (vl Q rs + Yp * Q ^ k * vl Q qs = S) ∧ Hid (vl Q (rs.drop k) < Yp) ∧ Rd .u64 wr (w.heap.size + 1) (some ⟨w.heap.size, 0, none⟩) lb bs ∧
    Row .u64 t wr G2 0 (madeCells #[.int .u64 0] (la + 1)) rs ∧ Row .u64 t wr G3 0 (madeCells #[.int .u64 0] M) (List.replicate k 0 ++ qs) ∧ Below w.heap.size w wr
def DlIn (t : TypeId) (wo : World) (G2 i lb V Yp : Nat) (C : Array Value) (wv ov : Value) (wr : World) : Prop :=
  ∃ (q : Nat) (o : Bool) (us : List Nat), wv = .int .u64 (q : Int) ∧ ov = .bool o ∧ q < Q ∧ Hid (V / Yp ≤ q) ∧ Hid (us.length = lb + 1) ∧ Hid (Dg Q us) ∧
    Hid (vl Q us + q * Yp = V + (if o then Q ^ (lb + 1) else 0)) ∧ Row .u64 t wr G2 i C us ∧ wo.grownBy wr (some G2)
def DlRet (t : TypeId) (w : World) (M N X Y : Nat) (e : Ending) (w' : World) : Prop :=
  ∃ (g h : Nat) (us vs : List Nat), e = .returned (.tuple #[.slice (some ⟨g, 0, none⟩) M M, .slice (some ⟨h, 0, none⟩) N N]) ∧ w.heap.size ≤ g ∧ g < h ∧ us.length = M ∧ vs.length = N ∧ Dg Q us ∧ Dg Q vs ∧
    vl Q us = X / Y ∧ vl Q vs = X % Y ∧ Row .u64 t w' g 0 (madeCells #[.int .u64 0] M) us ∧ Row .u64 t w' h 0 (madeCells #[.int .u64 0] N) vs ∧ Below w.heap.size w w'
theorem dl_quo {V Yp q u : Nat} (hq : V / Yp ≤ q) (h : u + q * Yp = V) (hY : 0 < Yp) : u < Yp := by
  have h1 : q ≤ V / Yp := (Nat.le_div_iff_mul_le hY).2 (by omega)
  have h2 : q = V / Yp := Nat.le_antisymm h1 hq
  have h3 := Nat.div_add_mod' V Yp
  rw [← h2] at h3
  have h4 := Nat.mod_lt V hY
  omega
theorem dl_take {wo W : World} {G1 G2 j n cap d q V Yp : Nat} {C' : Array Value} {zs bs : List Nat} (hbase : ∀ w', W.grownBy w' (some G2) → wo.grownBy w' (some G2))
    (hwin : Row .u64 62 W G2 j C' zs) (hzl : zs.length = n + 1) (hrb : Rd .u64 W (G1 + 1) (some ⟨G1, 0, none⟩) n bs) (hB : G1 + 1 ≤ W.heap.size)
    (hne : ∀ a, (some ⟨G1, 0, none⟩ : Option Addr) = some a → a.block ≠ G2) (dz : Dg Q zs) (dbs : Dg Q bs) (hq : q < Q) (hn : n ≤ 4611686018427387904) (e1 : vl Q zs = V) (hbv : vl Q bs = Yp) (hle : V / Yp ≤ q) :
    Calls Tryz.prog 123 #[.slice (some ⟨G2, j, none⟩) (n + 1) cap, .slice (some ⟨G1, 0, none⟩) n d, .int .u64 (q : Int)] W
      (fun e w' => ∃ o : Bool, e = .returned (.bool o) ∧ DlIn 62 wo G2 j n V Yp C' (.int .u64 (q : Int)) (.bool o) w') := by
  have h := takeTimes_any (G1 + 1) G2 j n cap d q (some ⟨G1, 0, none⟩) C' zs bs W hwin hzl hrb hB (fun _ => hne) dz dbs hq hn
  rw [e1, hbv] at h
  refine h.mono ?_
  rintro e w' ⟨bw, us, he, hbw, hul, du, hsum, hrw, hgr⟩
  refine ⟨decide (bw = 1), he, q, decide (bw = 1), us, rfl, rfl, hq, hide hle, hide hul, hide du, hide ?_, hrw, hbase w' hgr⟩
  rw [hsum]
  rcases Nat.eq_zero_or_pos bw with h0 | h0
  · subst h0; rw [Nat.mul_zero]; rfl
  · have h1 : bw = 1 := Nat.le_antisymm hbw h0
    subst h1; rw [Nat.mul_one]; rfl
set_option maxHeartbeats 8000000 in
theorem divLong_any (A D : Option Addr) (la c p d : Nat) (xs ys : List Nat) (w : World) (hx : Rd .u64 w w.heap.size A la xs) (hy : Rd .u64 w w.heap.size D (p + 1) ys) (dx : Dg Q xs) (dy : Dg Q ys)
    (hp : 1 ≤ p) (hlb : p + 1 ≤ la) (hla : la ≤ 17592186044000) (htop : ys.getD p 0 ≠ 0) :
    Calls Tryz.prog 111 #[.slice A la c, .slice D (p + 1) d] w (DlRet 62 w (la - p) (la + 1) (vl Q xs) (vl Q ys)) := by
  obtain ⟨t, ht⟩ : ∃ t, ys.getD p 0 = t := ⟨_, rfl⟩
  rw [ht] at htop
  have htQ : t < Q := by rw [← ht]; exact dy.getD Q_pos p
  have hz := Tryz.bits_LeadingZeros64 (t : Int) w (by omega) (by unfold Q at htQ; omega)
  rw [Int.toNat_natCast] at hz
  obtain ⟨es, hs63, hYQ, hY63⟩ := lz_spec (y := t) htop htQ
  rw [es] at hz
  clear es
  have hz := hz.mono (fun _ _ h => (⟨h.1, h.2.symm⟩ : _ ∧ w = _))
  obtain ⟨s, hs⟩ : ∃ s, lz t = s := ⟨_, rfl⟩
  rw [hs] at hz hs63 hYQ hY63
  obtain ⟨hfitY, htopY⟩ := dl_top hs63 hy.1 dy ht hYQ hY63
  have hupY := up_any D (p + 1) d s (p + 1) ys w hy dy (by omega) (by omega) (by omega) (by omega) hfitY
  have hfitX : 2 ^ s * vl Q xs < Q ^ (la + 1) := by
    have h1 := vl_lt dx
    rw [hx.1] at h1
    have h2 : 2 ^ s ≤ Q := by
      have := lz_more hs63 hYQ
      rw [Nat.add_mul, Nat.one_mul] at this
      omega
    rw [Nat.pow_succ, Nat.mul_comm (Q ^ la)]
    exact Nat.lt_of_lt_of_le (Nat.mul_lt_mul_of_pos_left h1 (Nat.pow_pos (by omega))) (Nat.mul_le_mul_right _ h2)
  have hupX : Hid (∀ W, Below w.heap.size w W → Calls Tryz.prog 121 #[.slice A la c, .int .i64 (s : Int), .int .i64 ((la : Int) + 1)] W (WordsRet 62 W (la + 1) (2 ^ s * vl Q xs))) := hide (fun W hb => by
    have h := up_any A la c s (la + 1) xs W ((hx.below hb (Nat.le_refl _)).more hb.size) dx (by omega) (by omega) (by omega) (by omega) hfitX
    rwa [Int.natCast_succ] at h)
  have hstart : Hid (2 ^ s * vl Q xs < 2 ^ s * vl Q ys * Q ^ (la - p)) := hide (by
    have h1 := vl_lt dx
    rw [hx.1] at h1
    have h2 : 2 ^ s ≤ 9223372036854775808 := by
      have := Nat.pow_le_pow_right (show 0 < 2 by omega) hs63
      exact this
    have h3 : 2 ^ s * vl Q xs < 2 ^ s * Q ^ la := Nat.mul_lt_mul_of_pos_left h1 (Nat.pow_pos (by omega))
    have h4 : 2 ^ s * Q ^ la ≤ 9223372036854775808 * Q ^ la := Nat.mul_le_mul_right _ h2
    have h5 : 9223372036854775808 * Q ^ p * Q ^ (la - p) ≤ 2 ^ s * vl Q ys * Q ^ (la - p) := Nat.mul_le_mul_right _ htopY
    rw [Nat.mul_assoc, ← Nat.pow_add, show p + (la - p) = la by omega] at h5
    omega)
  have hposY : Hid (0 < 2 ^ s * vl Q ys) := hide (Nat.lt_of_lt_of_le (Nat.mul_pos (by omega) (Nat.pow_pos Q_pos)) htopY)
  obtain ⟨bb, ob, hD, _, hcell⟩ := hy.at_ (show p < p + 1 by omega)
  subst hD
  rw [ht] at hcell
  obtain ⟨M, hM⟩ : ∃ M, la - p = M := ⟨_, rfl⟩
  have hmk := make_u64 M (by omega)
  have eM : (la : Int) - ((p : Int) + 1) + 1 = (M : Int) := by omega
  obtain ⟨X, hX⟩ : ∃ X, Hid (vl Q xs = X) := ⟨_, hide rfl⟩
  obtain ⟨Y, hY⟩ : ∃ Y, Hid (vl Q ys = Y) := ⟨_, hide rfl⟩
  obtain ⟨Yp, hYp⟩ : ∃ Yp, Hid (2 ^ s * Y = Yp) := ⟨_, hide rfl⟩
  obtain ⟨Xp, hXp⟩ : ∃ Xp, Hid (2 ^ s * X = Xp) := ⟨_, hide rfl⟩
  rw [hX.out, hXp.out] at hupX
  rw [hY.out, hYp.out] at hupY
  rw [hX.out, hY.out, hXp.out, hYp.out, hM] at hstart
  rw [hY.out, hYp.out] at hposY hfitY
  rw [hX.out, hY.out, hM]
  rw [hY.out, hYp.out] at htopY
  have HtopY := hide htopY
  have HfitY := hide hfitY
  rw [Int.natCast_succ] at hupY
  have HupY := hide hupY
  clear hx hy dx dy ht htop htQ hYQ hY63 hfitY htopY hfitX hupY hs
  go_enter Tryz.func111, Tryz.ntmps111
  go_wp2_with (go_at_call 117; refine hz.mono ?_; rintro e w' ⟨rfl, rfl⟩)
  refine HupY.out.mono ?_
  rintro e w1 ⟨bs, rfl, hbl, dbs, hbv, hrb, hb1⟩
  have hg1 := hrb.lt
  have RB : Hid (Rd .u64 w1 (w.heap.size + 1) (some ⟨w.heap.size, 0, none⟩) (p + 1) bs) := hide ⟨hbl, fun _ => ⟨_, 0, rfl, by omega, fun j hj => hrb.cell (by omega)⟩⟩
  have HupX := hide (hupX.out w1 hb1)
  have B1 := hide hb1
  have DBS := hide dbs
  have BV := hide hbv
  have HG1 := hide hg1
  clear hbl dbs hbv hrb hb1 hg1 HupY hupX hz hcell
  go_wp2_with fail
  refine HupX.out.mono ?_
  rintro e w2 ⟨rs, rfl, hrl, drs, hrv, hrr, hb2⟩
  have hrM : vl Q (rs.drop M) < Yp := by
    have h1 := vl_cut Q rs M
    have h2 := hstart.out
    rw [← hrv, h1] at h2
    rcases Nat.lt_or_ge (vl Q (rs.drop M)) Yp with h | h
    · exact h
    · have h3 : Yp * Q ^ M ≤ vl Q (rs.drop M) * Q ^ M := Nat.mul_le_mul_right _ h
      rw [Nat.mul_comm (vl Q (rs.drop M))] at h3
      omega
  have start : DlOut 62 w w1.heap.size w2.heap.size la (p + 1) M Yp Xp bs (.int .i64 ((M : Int) - 1)) (w2.alloc (.cells (madeCells #[.int .u64 0] M) 62)) := by
    refine ⟨M, rs, [], Nat.le_refl _, rfl, hide hrl, hide drs, hide (by simp), hide Dg.nil, hide (by simp [vl, hrv]), hide hrM, ?_, hrr.alloc _, ?_, ?_⟩
    · exact (RB.out.below hb2 HG1.out).alloc (Nat.le_trans HG1.out hb2.size) _
    · rw [List.append_nil]; exact Row.made w2 .u64 62 M
    · exact (B1.out.trans (hb2.mono B1.out.size)).alloc (Nat.le_trans B1.out.size hb2.size) _
  have HG2 : Hid (w1.heap.size < w2.heap.size) := hide hrr.lt
  have Start := hide start
  clear HupX hrl drs hrv hrr hb2 hrM start RB hstart
  go_wp2_with fail
  go_loopw [7] (fun iv wr => DlOut 62 w w1.heap.size w2.heap.size la (p + 1) M Yp Xp bs iv wr) (fun iv _ => (intOf iv + 1).toNat)
  case atStart => exact Start.out
  case round =>
    clear Start hmk eM
    obtain ⟨k, rs, qs, hk, rfl, hrl, drs, hql, dqs, hv, hR, hrb, hrow, hrow3, hbel⟩ := hrel
    rcases Nat.eq_zero_or_pos k with h0 | h0
    · subst h0
      have hv0 := hv.out
      have hR0 := hR.out
      rw [Nat.pow_zero, Nat.mul_one] at hv0
      rw [List.drop_zero] at hR0
      rw [List.replicate_zero, List.nil_append] at hrow3
      have hpos := hposY.out
      have eq1 : vl Q qs = X / Y := by
        have h1 : Xp / Yp = vl Q qs := by
          rw [← hv0, Nat.add_mul_div_left _ _ hpos, Nat.div_eq_of_lt hR0, Nat.zero_add]
        rw [← h1, ← hXp.out, ← hYp.out, Nat.mul_div_mul_left _ _ (Nat.pow_pos (by omega))]
      have er1 : vl Q rs / 2 ^ s = X % Y := by
        have h1 : Xp % Yp = vl Q rs := by
          rw [← hv0, Nat.add_mul_mod_self_left, Nat.mod_eq_of_lt hR0]
        rw [← h1, ← hXp.out, ← hYp.out, Nat.mul_mod_mul_left, Nat.mul_div_cancel_left _ (Nat.pow_pos (by omega))]
      have hrd : Rd .u64 wr wr.heap.size (some ⟨w1.heap.size, 0, none⟩) (la + 1) rs := ⟨hrl.out, fun _ => ⟨_, 0, rfl, hrow.lt, fun j hj => hrow.cell (by rw [hrl.out]; exact hj)⟩⟩
      have hdn := down_any (some ⟨w1.heap.size, 0, none⟩) (la + 1) (la + 1) s rs wr hrd drs.out (by omega) (by omega)
      rw [er1, show s / 64 = 0 by omega, Nat.sub_zero] at hdn
      have Hdn := hide hdn
      have fin : Hid (∀ W vs, vs.length = la + 1 → Dg Q vs → vl Q vs = X % Y → Row .u64 62 W wr.heap.size 0 (madeCells #[.int .u64 0] (la + 1)) vs → Below wr.heap.size wr W →
          DlRet 62 w M (la + 1) X Y (.returned (.tuple #[.slice (some ⟨w2.heap.size, 0, none⟩) M M, .slice (some ⟨wr.heap.size, 0, none⟩) (la + 1) (la + 1)])) W) := hide (by
        intro W vs h1 h2 h3 h4 h5
        refine ⟨w2.heap.size, wr.heap.size, qs, vs, rfl, ?_, hrow3.lt, by have := hql.out; omega, h1, dqs.out, h2, eq1, h3, hrow3.below h5 hrow3.lt, h4, hbel.trans (h5.mono hbel.size)⟩
        have := HG1.out
        have := HG2.out
        omega)
      clear hv0 hR0 hpos eq1 er1 hrd hdn hv hR hrb hrow hrow3 hbel drs dqs hql hrl
      go_wp2_with fail
      refine Hdn.out.mono ?_
      rintro e w3 ⟨vs, rfl, h1, h2, h3, h4, h5⟩
      have fin2 := fin.out _ vs h1 h2 h3 h4 h5
      clear h1 h2 h3 h4 h5
      go_wp2_with fail
      go_ret2
      exact fin2
    · obtain ⟨j, rfl⟩ : ∃ j, k = j + 1 := ⟨k - 1, by omega⟩
      have ej : ((j + 1 : Nat) : Int) - 1 = (j : Int) := by omega
      rw [ej]
      have hjM : j + 1 ≤ la - p := by omega
      have hjla : j + (p + 1) ≤ la := by omega
      have hjb : j ≤ 17592186044000 := by omega
      obtain ⟨e1, e2, e3⟩ := dl_part drs.out HfitY.out hR.out
      obtain ⟨wo, hwo⟩ : ∃ wo, wo = wr := ⟨_, rfl⟩
      subst hwo
      obtain ⟨V, hV⟩ : ∃ V, Hid (vl Q (rs.drop j) = V) := ⟨_, hide rfl⟩
      rw [hV.out] at e1 e2
      have hzl : ((rs.drop j).take (p + 1 + 1)).length = p + 1 + 1 := by rw [List.length_take, List.length_drop, hrl.out]; omega
      obtain ⟨C', hwin, hback⟩ := hrow.window j (p + 1 + 1) (by rw [hrl.out]; omega)
      have dz : Dg Q ((rs.drop j).take (p + 1 + 1)) := (drs.out.drop j).take _
      obtain ⟨zs, hzs⟩ : ∃ zs, (rs.drop j).take (p + 1 + 1) = zs := ⟨_, rfl⟩
      rw [hzs] at e1 hzl hwin dz
      obtain ⟨cap, hcap⟩ : ∃ cap, la + 1 - j = cap := ⟨_, rfl⟩
      have hbtop : 0 < bs.getD (p + 1 - 1) 0 := by
        rw [Nat.add_sub_cancel]
        rcases Nat.eq_zero_or_pos (bs.getD p 0) with h | h
        · have h1 := take_next bs p 0 h
          rw [List.take_of_length_le (by rw [hrb.1]; exact Nat.le_refl _), Nat.mul_zero, Nat.add_zero, BV.out] at h1
          have h2 := vl_take_lt Q_pos DBS.out p
          have h3 := HtopY.out
          have h4 : 1 * Q ^ p ≤ 9223372036854775808 * Q ^ p := Nat.mul_le_mul_right _ (by omega)
          omega
        · exact h
      have hrb1 := hrb.more (show w.heap.size + 1 ≤ wo.heap.size by have := HG1.out; have := hwin.lt; omega)
      have hgs := guess_any wo.heap.size (some ⟨w1.heap.size, j, none⟩) (some ⟨w.heap.size, 0, none⟩) (p + 1) cap (p + 1) zs bs wo
        ⟨hzl, fun _ => ⟨_, j, rfl, hwin.lt, fun i hi => hwin.cell (by rw [hzl]; exact hi)⟩⟩ hrb1 dz DBS.out (by omega) (by omega) hbtop (by rw [e1, BV.out]; exact e2)
      rw [e1, BV.out] at hgs
      have hne : ∀ a, (some ⟨w.heap.size, 0, none⟩ : Option Addr) = some a → a.block ≠ w1.heap.size := by
        intro a h
        cases h
        have := HG1.out
        simp; omega
      have hB1 : w.heap.size + 1 ≤ wo.heap.size := by have h1 := HG1.out; have h2 := hwin.lt; omega
      have htk : Hid (∀ q m, q < Q → V / Yp ≤ q → Calls Tryz.prog 123 #[.slice (some ⟨w1.heap.size, j, none⟩) (p + 1 + 1) cap, .slice (some ⟨w.heap.size, 0, none⟩) (p + 1) (p + 1), .int .u64 (q : Int)] (wo.drewN m)
          (fun e w' => ∃ o : Bool, e = .returned (.bool o) ∧ DlIn 62 wo w1.heap.size j (p + 1) V Yp C' (.int .u64 (q : Int)) (.bool o) w')) := hide (by
        intro q m hq hle
        exact dl_take (fun w' h => ⟨h.os, h.tape, h.output, h.size, h.block⟩) (hwin.drewN m) hzl (hrb.drewN m) hB1 hne dz DBS.out hq (by omega) e1 BV.out hle)
      have hpb : Hid (∀ q us wr, DlIn 62 wo w1.heap.size j (p + 1) V Yp C' (.int .u64 (q : Int)) (.bool true) wr → Row .u64 62 wr w1.heap.size j C' us → True) := hide (fun _ _ _ _ _ => trivial)
      have hpos := hposY
      have hbk : Hid (∀ q us wr, q < Q → us.length = p + 1 + 1 → Dg Q us → V / Yp ≤ q → vl Q us + q * Yp = V → Row .u64 62 wr w1.heap.size j C' us → wo.grownBy wr (some w1.heap.size) →
          (∃ v0 : Int, wr.cell? ⟨w2.heap.size, j, none⟩ = some (.int .u64 v0)) ∧ wr.frozen? ⟨w2.heap.size, j, none⟩ = false ∧
          DlOut 62 w w1.heap.size w2.heap.size la (p + 1) M Yp Xp bs (.int .i64 ((j : Int) - 1)) (wr.setCell ⟨w2.heap.size, j, none⟩ (.int .u64 (q : Int)))) := hide (by
        intro q us wr hq hul du hle hsum hrw hgr
        have hr3 := hrow3.grown hgr (by have := HG2.out; intro h; injection h with h; omega)
        have hjl : j < (List.replicate (j + 1) 0 ++ qs).length := by simp; omega
        have hc := hr3.cell hjl
        rw [Nat.zero_add] at hc
        have hst := hr3.set_ hjl q
        rw [Nat.zero_add] at hst
        have ef : (List.replicate (j + 1) 0 ++ qs).set j q = List.replicate j 0 ++ q :: qs := by
          rw [List.replicate_succ', List.append_assoc, List.set_append_right _ _ (by simp)]
          simp
        rw [ef] at hst
        rw [← hV.out] at hsum
        obtain ⟨s1, s2⟩ := dl_step (i := j) (by rw [hrl.out]; omega) hul e3 hsum hv.out
        have hlt := dl_quo (V := V) (by exact hle) (by rw [← hV.out]; exact hsum) hposY.out
        have hrs := hback wr us hul hrw
        refine ⟨⟨_, hc⟩, hr3.frozen _, j, _, q :: qs, by omega, rfl, hide ?_, hide ((drs.out.take j).append du |>.append (drs.out.drop _)), hide ?_, hide (Dg.cons hq dqs.out), hide s1, hide (by rw [s2]; exact hlt), ?_, ?_, hst, ?_⟩
        · simp only [List.length_append, List.length_take, List.length_drop, hul, hrl.out]; omega
        · have := hql.out; simp only [List.length_cons]; omega
        · exact (hrb.grownOff hgr (by have := HG1.out; have := hwin.lt; omega) hne).setCell (by have := HG1.out; have := HG2.out; simp; omega) _
        · exact hrs.far (by have := HG2.out; simp; omega) _
        · exact (below_only hbel hgr hbel.size (by have := HG1.out; omega)).setCell (by have := HG1.out; have := HG2.out; simp; omega) _)
      have hput : Hid (∀ q us wr, q + 1 < Q → us.length = p + 1 + 1 → Dg Q us → V / Yp ≤ q + 1 → vl Q us + (q + 1) * Yp = V + Q ^ (p + 1 + 1) → Row .u64 62 wr w1.heap.size j C' us → wo.grownBy wr (some w1.heap.size) →
          Calls Tryz.prog 124 #[.slice (some ⟨w1.heap.size, j, none⟩) (p + 1 + 1) cap, .slice (some ⟨w.heap.size, 0, none⟩) (p + 1) (p + 1)] wr
            (fun e w' => ∃ o : Bool, e = .returned (.bool o) ∧ DlIn 62 wo w1.heap.size j (p + 1) V Yp C' (.int .u64 (q : Int)) (.bool (!o)) w')) := hide (by
        intro q us wr hq hul du hle hsum hrw hgr
        have hB : w.heap.size + 1 ≤ wr.heap.size := by have := HG1.out; have := hrw.lt; omega
        refine (putBack_any (w.heap.size + 1) w1.heap.size j (p + 1) cap (p + 1) (some ⟨w.heap.size, 0, none⟩) C' us bs wr hrw hul (hrb.grownOff hgr (by have := HG1.out; have := hwin.lt; omega) hne) hB (fun _ => hne) du DBS.out (by omega)).mono ?_
        rintro e w' ⟨cy, us', he, hcy, hul', du', hs', hrw', hgr'⟩
        have hlt := vl_lt du
        rw [hul] at hlt
        have hVq : V < (q + 1) * Yp := by omega
        have hle2 : V / Yp ≤ q := by
          have := (Nat.div_lt_iff_lt_mul hposY.out).2 hVq
          omega
        rw [BV.out] at hs'
        refine ⟨_, he, q, _, us', rfl, rfl, by omega, hide hle2, hide hul', hide du', hide ?_, hrw', only_trans hgr hgr'⟩
        rw [Nat.add_mul, Nat.one_mul] at hsum
        rcases Nat.eq_zero_or_pos cy with h | h
        · subst h
          rw [Nat.mul_zero, Nat.add_zero] at hs'
          show vl Q us' + q * Yp = V + Q ^ (p + 1 + 1)
          omega
        · have h1 : cy = 1 := Nat.le_antisymm hcy h
          subst h1
          rw [Nat.mul_one] at hs'
          show vl Q us' + q * Yp = V + 0
          omega)
      have Hgs := hide hgs
      have i1 : (j : Int) + ((p : Int) + 1) + 1 ≤ (la : Int) + 1 := by omega
      have ejl : j + (p + 1) + 1 - j = p + 1 + 1 := by omega
      clear hwin hback hzs dz hzl hrb1 hrb hrow hrow3 hbel hgs hne e1 e2 e3 hv hR hrl drs hql dqs hV hbtop hpb
      go_wp2_with fail
      refine Hgs.out.mono ?_
      rintro e w3 ⟨q, rfl, hqQ, hqle, m, rfl⟩
      have Htk := hide (htk.out q m hqQ hqle)
      clear htk hqQ hqle Hgs
      go_wp2_with fail
      refine Htk.out.mono ?_
      rintro e w4 ⟨o, rfl, st⟩
      have St := hide st
      clear st Htk
      go_wp2_with fail
      go_loopw [9, 10] (fun wv ov wr => DlIn 62 wo w1.heap.size j (p + 1) V Yp C' wv ov wr) (fun wv _ _ => (intOf wv).toNat)
      case atStart => exact St.out
      case round =>
        clear St
        obtain ⟨q, o, us, rfl, rfl, hq, hle, hul, du, hsum, hrw, hgr⟩ := hrel
        cases o with
        | true =>
          have hs0 := hsum.out
          simp only [if_true] at hs0
          have hlt := vl_lt du.out
          rw [hul.out] at hlt
          obtain ⟨q', hq'⟩ : ∃ q', q = q' + 1 := by
            rcases Nat.eq_zero_or_pos q with h | h
            · subst h
              rw [Nat.zero_mul] at hs0
              omega
            · exact ⟨q - 1, by omega⟩
          have hp2 := hide (hput.out q' us wr (by omega) hul.out du.out (by rw [← hq']; exact hle.out) (by rw [← hq']; exact hs0) hrw hgr)
          have eq1 : (q : Int) - 1 = (q' : Int) := by omega
          have eq2 : IntKind.u64.wrap (q' : Int) = (q' : Int) := wrapN q' (by omega)
          have hqq : q' < q := by omega
          clear hs0 hlt hle hul du hsum hrw hgr hbk hput
          go_wp2_with (go_at_call 124; refine hp2.out.mono ?_; rintro e w5 ⟨o2, rfl, rel2⟩)
          go_roundw
          case rel => exact rel2
          case measure => simp [intOf]; omega
        | false =>
          have hs0 := hsum.out
          simp only [Bool.false_eq_true, if_false, Nat.add_zero] at hs0
          obtain ⟨⟨v0, hc0⟩, hf0, fin⟩ := hbk.out q us wr hq hul.out du.out hle.out hs0 hrw hgr
          have Fin := hide fin
          have i2 : (j : Int) < (M : Int) := by omega
          clear hs0 hle hul du hsum hrw hgr hbk hput fin
          go_wp2_with fail
          go_roundw
          case rel => exact Fin.out
          case measure => simp [intOf]
theorem top_of_tz {zs : List Nat} {m : Nat} (hidem : tz zs = zs) (hm : zs.length = m + 1) : zs.getD m 0 ≠ 0 := by
  intro h
  have h1 := tz_step_zero zs m (by omega) h
  rw [List.take_of_length_le (by omega), hidem] at h1
  have h2 := congrArg List.length h1
  have h3 := tz_length_le (zs.take m)
  rw [List.length_take] at h3
  omega
set_option maxHeartbeats 2000000 in
theorem divmod_long (A D : Option Addr) (n c m d p : Nat) (xs ys : List Nat) (w : World) (hx : Rd .u64 w w.heap.size A n xs) (hy : Rd .u64 w w.heap.size D m ys)
    (dx : Dg Q xs) (dy : Dg Q ys) (hnc : n ≤ c) (hc : c ≤ maxLen) (hmd : m ≤ d) (hd : d ≤ maxLen) (hn : n ≤ 17592186044000) (h1 : (tz ys).length = p + 1) (hp : 1 ≤ p) (hle : p + 1 ≤ (tz xs).length) :
    Calls Tryz.prog 88 #[.slice A n c, .slice D m d] w (DivRet 62 w (vl Q xs) (vl Q ys)) := by
  obtain ⟨A', c', hpc, hcm, hx', -, cx⟩ := clip_get _ A n c xs w hx hnc hc
  obtain ⟨D', d', hqd, hdm, hy', -, cy⟩ := clip_get _ D m d ys w hy hmd hd
  have lx := tz_length_le xs
  have hx1 := hx.1
  rw [h1] at hy' cy
  have hlong := divLong_any A' D' (tz xs).length c' p d' (tz xs) (tz ys) w hx' hy' (tz_dg dx) (tz_dg dy) hp hle (by omega) (top_of_tz (tz_idem ys) h1)
  rw [tz_vl, tz_vl] at hlong
  have hpos : Hid (0 < vl Q ys) := hide (by
    have h := pos_of_tz (tz_idem ys) (by omega) (tz_dg dy)
    rw [tz_vl] at h
    exact Nat.lt_of_lt_of_le (Nat.pow_pos Q_pos) h)
  obtain ⟨X, hX⟩ : ∃ X, Hid (vl Q xs = X) := ⟨_, hide rfl⟩
  obtain ⟨Y, hY⟩ : ∃ Y, Hid (vl Q ys = Y) := ⟨_, hide rfl⟩
  rw [hX.out, hY.out] at hlong ⊢
  rw [hY.out] at hpos
  obtain ⟨la, hla⟩ : ∃ la, (tz xs).length = la := ⟨_, rfl⟩
  rw [hla] at hlong cx hpc hle lx
  have hfin : Hid (∀ e w1, DlRet 62 w (la - p) (la + 1) X Y e w1 → ∃ qv rv q r, e = .returned (.tuple #[qv, rv]) ∧
      (Calls Tryz.prog 90 #[qv] w1 fun e w' => e = .returned q ∧ w1 = w') ∧ (Calls Tryz.prog 90 #[rv] w1 fun e w' => e = .returned r ∧ w1 = w') ∧
      DivRet 62 w X Y (.returned (.tuple #[q, r, .int .i64 0])) w1) := hide (by
    rintro e w1 ⟨g, h, us, vs, he, hg, hgh, hul, hvl, du, dv, hq, hr, hrq, hrr, hb⟩
    have o1 := Own.of_row hrq hg (size_madeCells ..) (by simp [maxLen]; omega)
    have o2 := Own.of_row hrr (Nat.le_trans hg (Nat.le_of_lt hgh)) (size_madeCells ..) (by simp [maxLen]; omega)
    obtain ⟨q, oq, bq, cq⟩ := clip_own _ _ _ _ o1
    obtain ⟨r, or, br, cr⟩ := clip_own _ _ _ _ o2
    rw [hul] at cq bq
    rw [hvl] at cr br
    rw [← cn_vl Q_two du, hq] at oq
    rw [← cn_vl Q_two dv, hr] at or
    refine ⟨_, _, q, r, he, cq, cr, fun h0 => absurd hpos.out (by omega), fun _ => ⟨q, r, rfl, oq, or, fun g1 h1 h2 => ?_⟩, hb⟩
    rcases bq with h3 | h3
    · rw [h3] at h1; cases h1
    · rcases br with h4 | h4
      · rw [h4] at h2; cases h2
      · rw [h3] at h1
        rw [h4] at h2
        simp [Value.ownBlock] at h1 h2
        omega)
  have b0 : (((p : Int) + 1) == 0) = false := beq_eq_false_iff_ne.2 (by omega)
  have b1 : (((p : Int) + 1) == 1) = false := beq_eq_false_iff_ne.2 (by omega)
  have hlt' : ¬ (la < p + 1) := by omega
  have b2 : decide ((la : Int) < (p : Int) + 1) = false := decide_eq_false (by omega)
  have Hlong := hide hlong
  clear hx hy hx' hy' dx dy hnc hc hmd hd hpc hcm hqd hdm hn h1 hX hY hla hlong hx1 lx hpos
  go_enter Tryz.func88, Tryz.ntmps88
  go_wp2_with (first
    | (go_at_call 90; (with_reducible refine cx.mono ?_); rintro e w' ⟨rfl, rfl⟩)
    | (go_at_call 90; (with_reducible refine cy.mono ?_); rintro e w' ⟨rfl, rfl⟩))
  refine Hlong.out.mono ?_
  intro e w1 hret
  obtain ⟨qv, rv, q, r, rfl, cq, cr, fin⟩ := hfin.out e w1 hret
  clear hfin hret Hlong
  go_wp2_with fail
  refine cq.mono ?_
  rintro e w_ ⟨rfl, rfl⟩
  go_wp2_with fail
  refine cr.mono ?_
  rintro e w_ ⟨rfl, rfl⟩
  go_wp2_with fail
  go_ret3
  exact fin
theorem divmod_any (A D : Option Addr) (n c m d : Nat) (xs ys : List Nat) (w : World) (hx : Rd .u64 w w.heap.size A n xs) (hy : Rd .u64 w w.heap.size D m ys)
    (dx : Dg Q xs) (dy : Dg Q ys) (hnc : n ≤ c) (hc : c ≤ maxLen) (hmd : m ≤ d) (hd : d ≤ maxLen) (hn : n ≤ 17592186044000) :
    Calls Tryz.prog 88 #[.slice A n c, .slice D m d] w (DivRet 62 w (vl Q xs) (vl Q ys)) := by
  rcases Nat.eq_zero_or_pos (tz ys).length with h0 | h0
  · exact divmod_zero A D n c m d xs ys w hx hy dx dy hnc hc hmd hd h0
  · rcases Nat.lt_or_ge (tz xs).length (tz ys).length with h1 | h1
    · exact divmod_less A D n c m d xs ys w hx hy dx dy hnc hc hmd hd hn h1
    · by_cases h2 : (tz ys).length = 1
      · exact divmod_word A D n c m d xs ys w hx hy dx dy hnc hc hmd hd hn h2 (by omega)
      · obtain ⟨p, hp⟩ : ∃ p, (tz ys).length = p + 1 := ⟨(tz ys).length - 1, by omega⟩
        exact divmod_long A D n c m d p xs ys w hx hy dx dy hnc hc hmd hd hn hp (by omega) (by omega)
theorem ndivmod {w : World} {u v : Value} {x y L M : Nat} (hu : Nw w u x L) (hv : Nw w v y M) (hL : L ≤ 17592186044000) (hy : 0 < y) :
    Calls Tryz.prog 88 #[u, v] w fun e w' => ∃ q r, e = .returned (.tuple #[q, r, .int .i64 0]) ∧ Own .u64 62 w' w.heap.size q (cn Q (x / y)) ∧ Own .u64 62 w' w.heap.size r (cn Q (x % y)) ∧
      (∀ g, q.ownBlock = some g → r.ownBlock ≠ some g) ∧ Cw w' q (x / y) L ∧ Cw w' r (x % y) M ∧ Below w.heap.size w w' := by
  have lx := hu.lt
  have ly := hv.lt
  obtain ⟨A, n, c, xs, rfl, hx, dx, h1, h2, rfl, hn⟩ := hu
  obtain ⟨D, m, d, ys, rfl, hyy, dy, h3, h4, rfl, hm⟩ := hv
  refine (divmod_any A D n c m d xs ys w hx hyy dx dy h1 h2 h3 h4 (by omega)).mono fun e w' ⟨_, h, hb⟩ => ?_
  obtain ⟨q, r, he, oq, or, hne⟩ := h hy
  exact ⟨q, r, he, oq, or, hne, Cw.of oq (Nat.lt_of_le_of_lt (Nat.div_le_self _ _) lx), Cw.of or (Nat.lt_trans (Nat.mod_lt _ hy) ly), hb⟩
theorem win_any (B : Nat) (A : Option Addr) (n c k s h : Nat) (xs : List Nat) (w : World) (hx : Rd .u64 w B A n xs) (dx : Dg Q xs) (hn : n ≤ k + 2) (hk : k ≤ 17592186044416) (hs : s ≤ 63)
    (hh : xs.getD (k + 1) 0 = h) (hlt : h * 2 ^ s < Q) :
    Calls Tryz.prog 118 #[.slice A n c, .int .i64 ((k : Int) + 2), .int .i64 (s : Int)] w (QuietRet w (.int .u64 ((vl Q xs / (Q ^ k * 2 ^ (64 - s)) : Nat) : Int))) := by
  obtain ⟨m, hm⟩ : ∃ m, xs.getD k 0 = m := ⟨_, rfl⟩
  have bm : m < Q := by rw [← hm]; exact dx.getD Q_pos k
  have hw := win_eq dx (by have := hx.1; omega) hh hm hs
  obtain ⟨cc, hcc⟩ : ∃ cc, m / 2 ^ (64 - s) = cc := ⟨_, rfl⟩
  have bcc : cc < 2 ^ s := by rw [← hcc]; exact carry_lt m s hs bm
  obtain ⟨eo, bo⟩ := up_word h cc s hs bcc
  rw [Nat.mod_eq_of_lt hlt] at eo bo
  obtain ⟨y, hy⟩ : ∃ y, h * 2 ^ s = y := ⟨_, rfl⟩
  obtain ⟨o, ho⟩ : ∃ o, y + cc = o := ⟨_, rfl⟩
  rw [hcc, hy, ho] at hw
  rw [hw]
  rw [hy, ho] at eo bo
  have eS : IntKind.u64.wrap ((h : Int) * 2 ^ s) = (y : Int) := by rw [shlN, wrapM, hy, Nat.mod_eq_of_lt (by rw [← hy]; exact hlt)]
  have eR : (m : Int) / 2 ^ (64 - s) = (cc : Int) := by rw [shrN, hcc]
  have e3 : IntKind.i64.wrap (64 - (s : Int)) = 64 - (s : Int) := IntWalk.i64_in _ (by omega)
  have k1 : IntKind.i64.wrap ((k : Int) + 2 - 1) = (k : Int) + 1 := by rw [IntWalk.i64_in _ (by omega)]; omega
  have k2 : IntKind.i64.wrap (k : Int) = (k : Int) := IntWalk.i64_in _ (by omega)
  have atx : Hid (Calls Tryz.prog 96 #[.slice A n c, .int .i64 ((k : Int) + 1)] w.drew fun e w' => e = .returned (.int .u64 (h : Int)) ∧ w.drew = w') := hide (by
    have h := at_get B A n c xs (k + 1) h w.drew hx.drew (by unfold maxLen; omega) (hide hh)
    rwa [Int.natCast_succ] at h)
  have atz : Hid (Calls Tryz.prog 96 #[.slice A n c, .int .i64 (k : Int)] w.drew fun e w' => e = .returned (.int .u64 (m : Int)) ∧ w.drew = w') := hide (by
    exact at_get B A n c xs k m w.drew hx.drew (by unfold maxLen; omega) (hide hm))
  clear hx dx hw hm hh bm hcc bcc hlt hy ho
  go_enter Tryz.func118, Tryz.ntmps118
  go_wp2_with fail
  go_region_held3 (fun _ => True) (first | trivial | exact True.intro)
    (first
      | (go_at_call 96; (with_reducible refine atx.out.mono ?_); rintro e w' ⟨rfl, rfl⟩)
      | (go_at_call 96; (with_reducible refine atz.out.mono ?_); rintro e w' ⟨rfl, rfl⟩))
  all_goals
    go_wp2_with fail
    go_ret
    exact ⟨rfl, 1, rfl⟩
theorem lret {fn : Func} {p : Tmp} (h : fn.results = #[.cell p 142]) (tmps : Array Value) (w : World) (g : Nat) (cs : Array Value) (hs : cs.size = 5)
    (hp : tmps.getD p undef = .pointer (some ⟨g, 0, none⟩)) (hg : w.heap[g]? = some (.cells cs 142 (0, 0))) : (results fn tmps).run Tryz.prog w = .ok (.agg cs) w :=
  results_cell_row h tmps w g 142 cs (0, 0) _ hp hg Tryz.underlying142 rfl (by rw [hs]; kernel_rfl)
theorem win_lt {n h m s : Nat} {xs : List Nat} (dx : Dg Q xs) (hl : xs.length ≤ n + 2) (hh : xs.getD (n + 1) 0 = h) (hm : xs.getD n 0 = m) (hs : s ≤ 63) (hlt : h * 2 ^ s < Q) :
    vl Q xs / (Q ^ n * 2 ^ (64 - s)) < Q := by
  rw [win_eq dx hl hh hm hs]
  have bm : m < Q := by rw [← hm]; exact dx.getD Q_pos n
  have h1 := (up_word h _ s hs (carry_lt m s hs bm)).2
  rwa [Nat.mod_eq_of_lt hlt] at h1
abbrev lnil : Obj := .cells #[.bool false, .int .u64 0, .int .u64 0, .int .u64 0, .int .u64 0] 142
def FlRet (w : World) (U V : Nat) (e : Ending) (w' : World) : Prop :=
  ∃ (odd : Bool) (p0 p1 q0 q1 : Nat), e = .returned (lv odd p0 p1 q0 q1) ∧ p0 < Q ∧ p1 < Q ∧ q0 < Q ∧ q1 < Q ∧
    (p1 ≠ 0 → ∃ A B : Nat, Nat.gcd A B = Nat.gcd U V ∧ B ≤ A ∧ A ≤ U ∧ A + B < U + V ∧
      (odd = false → p0 * U = p1 * V + A ∧ q1 * V = q0 * U + B) ∧ (odd = true → p1 * V = p0 * U + A ∧ q0 * U = q1 * V + B)) ∧ Below w.heap.size w w'
def FlRel (w : World) (U V x0 y0 : Nat) (xv yv : Value) (wr : World) : Prop :=
  ∃ (odd : Bool) (p0 p1 q0 q1 x y : Nat), xv = .int .u64 (x : Int) ∧ yv = .int .u64 (y : Int) ∧ x < Q ∧ y < Q ∧ p0 < Q ∧ p1 < Q ∧ q0 < Q ∧ q1 < Q ∧ Hid (LInv U V x0 y0 odd p0 p1 q0 q1 x y) ∧
    wr.heap[w.heap.size + 1]? = some (lblk odd p0 p1 q0 q1) ∧ wr.heap[w.heap.size]? = some lnil ∧ Below w.heap.size w wr
theorem fl_out {w wr : World} {U V x0 y0 M p0 p1 q0 q1 x y : Nat} {odd : Bool} (hi : LInv U V x0 y0 odd p0 p1 q0 q1 x y) (hx0 : U / M = x0) (hy0 : V / M = y0) (hM : 0 < M) (hU : 0 < U)
    (h0 : p0 < Q) (h1 : p1 < Q) (h2 : q0 < Q) (h3 : q1 < Q) (hg : wr.heap[w.heap.size]? = some lnil) (hb : Below w.heap.size w wr) :
    (((((wr.setCell ⟨w.heap.size, 0, none⟩ (.bool odd)).setCell ⟨w.heap.size, 1, none⟩ (.int .u64 (p0 : Int))).setCell ⟨w.heap.size, 2, none⟩ (.int .u64 (p1 : Int))).setCell ⟨w.heap.size, 3, none⟩ (.int .u64 (q0 : Int))).setCell ⟨w.heap.size, 4, none⟩ (.int .u64 (q1 : Int))).heap[w.heap.size]? = some (lblk odd p0 p1 q0 q1) ∧
    FlRet w U V (.returned (lv odd p0 p1 q0 q1)) (((((wr.setCell ⟨w.heap.size, 0, none⟩ (.bool odd)).setCell ⟨w.heap.size, 1, none⟩ (.int .u64 (p0 : Int))).setCell ⟨w.heap.size, 2, none⟩ (.int .u64 (p1 : Int))).setCell ⟨w.heap.size, 3, none⟩ (.int .u64 (q0 : Int))).setCell ⟨w.heap.size, 4, none⟩ (.int .u64 (q1 : Int))) := by
  refine ⟨?_, odd, p0, p1, q0, q1, rfl, h0, h1, h2, h3, fun hp => ?_, ?_⟩
  · exact heap_setCell_same _ _ 4 _ _ _ (heap_setCell_same _ _ 3 _ _ _ (heap_setCell_same _ _ 2 _ _ _ (heap_setCell_same _ _ 1 _ _ _ (heap_setCell_same _ _ 0 _ _ _ hg))))
  · refine hi.leap (P := M) (u := U % M) (v := V % M) hp ?_ ?_ (Nat.mod_lt _ hM) (Nat.mod_lt _ hM) hU
    · rw [← hx0, Nat.mul_comm]; exact (Nat.div_add_mod U M).symm
    · rw [← hy0, Nat.mul_comm]; exact (Nat.div_add_mod V M).symm
  · exact ((((hb.setCell (Nat.le_refl _) _).setCell (Nat.le_refl _) _).setCell (Nat.le_refl _) _).setCell (Nat.le_refl _) _).setCell (Nat.le_refl _) _
theorem fl_next {w W : World} {U V x0 y0 p0 p1 q0 q1 n0 n1 y r : Nat} {odd : Bool} {o : Obj} (hi : LInv U V x0 y0 (!odd) q0 q1 n0 n1 y r) (hy : y < Q) (hr : r < Q) (h2 : q0 < Q) (h3 : q1 < Q) (h0 : n0 < Q) (h1 : n1 < Q)
    (hl : W.heap[w.heap.size + 1]? = some (lblk odd p0 p1 q0 q1)) (hg : W.heap[w.heap.size]? = some lnil) (hb : Below w.heap.size w W) :
    FlRel w U V x0 y0 (.int .u64 (y : Int)) (.int .u64 (r : Int)) ((((((W.setCell ⟨w.heap.size + 1, 1, none⟩ (.int .u64 (q0 : Int))).setCell ⟨w.heap.size + 1, 2, none⟩ (.int .u64 (q1 : Int))).setCell ⟨w.heap.size + 1, 3, none⟩ (.int .u64 (n0 : Int))).setCell ⟨w.heap.size + 1, 4, none⟩ (.int .u64 (n1 : Int))).setCell ⟨w.heap.size + 1, 0, none⟩ (.bool !odd)).alloc o).drew := by
  have hlt := (Array.getElem?_eq_some_iff.1 hl).1
  have a1 := heap_setCell_same _ _ 0 _ _ (.bool !odd) (heap_setCell_same _ _ 4 _ _ (.int .u64 (n1 : Int)) (heap_setCell_same _ _ 3 _ _ (.int .u64 (n0 : Int)) (heap_setCell_same _ _ 2 _ _ (.int .u64 (q1 : Int)) (heap_setCell_same _ _ 1 _ _ (.int .u64 (q0 : Int)) hl))))
  have a0 : (((((W.setCell ⟨w.heap.size + 1, 1, none⟩ (.int .u64 (q0 : Int))).setCell ⟨w.heap.size + 1, 2, none⟩ (.int .u64 (q1 : Int))).setCell ⟨w.heap.size + 1, 3, none⟩ (.int .u64 (n0 : Int))).setCell ⟨w.heap.size + 1, 4, none⟩ (.int .u64 (n1 : Int))).setCell ⟨w.heap.size + 1, 0, none⟩ (.bool !odd)).heap[w.heap.size]? = some lnil := by
    rw [heap_setCell_other _ _ _ _ (by simp), heap_setCell_other _ _ _ _ (by simp), heap_setCell_other _ _ _ _ (by simp), heap_setCell_other _ _ _ _ (by simp), heap_setCell_other _ _ _ _ (by simp)]
    exact hg
  have bb := ((((hb.setCell (p := ⟨w.heap.size + 1, 1, none⟩) (Nat.le_succ _) (.int .u64 (q0 : Int))).setCell (p := ⟨w.heap.size + 1, 2, none⟩) (Nat.le_succ _) (.int .u64 (q1 : Int))).setCell (p := ⟨w.heap.size + 1, 3, none⟩) (Nat.le_succ _) (.int .u64 (n0 : Int))).setCell (p := ⟨w.heap.size + 1, 4, none⟩) (Nat.le_succ _) (.int .u64 (n1 : Int))).setCell (p := ⟨w.heap.size + 1, 0, none⟩) (Nat.le_succ _) (.bool !odd)
  have al := (Below.refl (((((W.setCell ⟨w.heap.size + 1, 1, none⟩ (.int .u64 (q0 : Int))).setCell ⟨w.heap.size + 1, 2, none⟩ (.int .u64 (q1 : Int))).setCell ⟨w.heap.size + 1, 3, none⟩ (.int .u64 (n0 : Int))).setCell ⟨w.heap.size + 1, 4, none⟩ (.int .u64 (n1 : Int))).setCell ⟨w.heap.size + 1, 0, none⟩ (.bool !odd)).heap.size _).alloc (Nat.le_refl _) o
  exact ⟨!odd, q0, q1, n0, n1, y, r, rfl, rfl, hy, hr, h2, h3, h0, h1, hide hi, (al.block _ (by simp only [World.size_setCell]; exact hlt)).trans a1, (al.block _ (by simp only [World.size_setCell]; omega)).trans a0, below_drewN (bb.alloc bb.size o) 1⟩
theorem fl_more {w X : World} {U V g : Nat} {e : Ending} {o ob : Obj} (hb : w.heap.size ≤ X.heap.size) (h : X.heap[g]? = some ob ∧ FlRet w U V e X) : (X.alloc o).heap[g]? = some ob ∧ FlRet w U V e (X.alloc o) := by
  obtain ⟨h1, odd, p0, p1, q0, q1, e1, e2, e3, e4, e5, e6, e7⟩ := h
  exact ⟨((Below.refl X.heap.size X).alloc (Nat.le_refl _) o).block g (Array.getElem?_eq_some_iff.1 h1).1 |>.trans h1, odd, p0, p1, q0, q1, e1, e2, e3, e4, e5, e6, e7.alloc hb o⟩
set_option maxHeartbeats 8000000 in
theorem find_any (A D : Option Addr) (k c m d : Nat) (xs ys : List Nat) (w : World) (hx : Rd .u64 w w.heap.size A (k + 2) xs) (hy : Rd .u64 w w.heap.size D m ys) (dx : Dg Q xs) (dy : Dg Q ys)
    (hm : m ≤ k + 2) (hk : k ≤ 17592186044000) (htop : xs.getD (k + 1) 0 ≠ 0) (hle : vl Q ys ≤ vl Q xs) :
    Calls Tryz.prog 106 #[.slice A (k + 2) c, .slice D m d] w (FlRet w (vl Q xs) (vl Q ys)) := by
  obtain ⟨t, ht⟩ : ∃ t, xs.getD (k + 1) 0 = t := ⟨_, rfl⟩
  rw [ht] at htop
  have htQ : t < Q := by rw [← ht]; exact dx.getD Q_pos (k + 1)
  have hz : ∀ W, Calls Tryz.prog 117 #[.int .u64 (t : Int)] W _ := fun W => Tryz.bits_LeadingZeros64 (t : Int) W (by omega) (by unfold Q at htQ; omega)
  simp only [Int.toNat_natCast] at hz
  obtain ⟨es, hs63, hYQ, hY63⟩ := lz_spec (y := t) htop htQ
  rw [es] at hz
  clear es
  obtain ⟨s, hs⟩ : ∃ s, lz t = s := ⟨_, rfl⟩
  rw [hs] at hz hs63 hYQ hY63
  have hlx : xs.length ≤ k + 2 := by rw [hx.1]; exact Nat.le_refl _
  have hly : ys.length ≤ k + 2 := by rw [hy.1]; exact hm
  obtain ⟨h2, hh2⟩ : ∃ h2, ys.getD (k + 1) 0 = h2 := ⟨_, rfl⟩
  have hh : h2 ≤ t := win_le dx dy hlx hly ht hh2 hle
  have hYQ2 : h2 * 2 ^ s < Q := Nat.lt_of_le_of_lt (Nat.mul_le_mul_right _ hh) hYQ
  have bx0 := win_lt dx hlx ht rfl hs63 hYQ
  have by0 := win_lt dy hly hh2 rfl hs63 hYQ2
  have hUpos : 0 < vl Q xs := by
    rcases Nat.eq_zero_or_pos (vl Q xs) with h | h
    · have h1 := win_top dx hlx ht rfl
      rw [h, Nat.zero_div] at h1
      have : 0 < Q * t := Nat.mul_pos Q_pos (by omega)
      omega
    · exact h
  have w1 : ∀ W, Below w.heap.size w W → Calls Tryz.prog 118 #[.slice A (k + 2) c, .int .i64 ((k : Int) + 2), .int .i64 (s : Int)] W _ := fun W hb => win_any w.heap.size A (k + 2) c k s t xs W (hx.below hb (Nat.le_refl _)) dx (Nat.le_refl _) (by omega) hs63 ht hYQ
  have w2 : ∀ W, Below w.heap.size w W → Calls Tryz.prog 118 #[.slice D m d, .int .i64 ((k : Int) + 2), .int .i64 (s : Int)] W _ := fun W hb => win_any w.heap.size D m d k s h2 ys W (hy.below hb (Nat.le_refl _)) dy hm (by omega) hs63 hh2 hYQ2
  have hMp : 0 < Q ^ k * 2 ^ (64 - s) := Nat.mul_pos (Nat.pow_pos Q_pos) (Nat.pow_pos (by omega))
  have hdiv : vl Q ys / (Q ^ k * 2 ^ (64 - s)) ≤ vl Q xs / (Q ^ k * 2 ^ (64 - s)) := Nat.div_le_div_right hle
  obtain ⟨bb, ob, hA, _, hcell⟩ := hx.at_ (show k + 1 < k + 2 by omega)
  rw [ht] at hcell
  subst hA
  obtain ⟨U, hU⟩ : ∃ U, vl Q xs = U := ⟨_, rfl⟩
  obtain ⟨V, hV⟩ : ∃ V, vl Q ys = V := ⟨_, rfl⟩
  obtain ⟨M, hM⟩ : ∃ M, Q ^ k * 2 ^ (64 - s) = M := ⟨_, rfl⟩
  rw [hU, hM] at bx0 w1
  rw [hV, hM] at by0 w2
  rw [hU, hV, hM] at hdiv
  rw [hU] at hUpos ⊢
  rw [hV]
  rw [hM] at hMp
  obtain ⟨x0, hx0⟩ : ∃ x0, U / M = x0 := ⟨_, rfl⟩
  obtain ⟨y0, hy0⟩ : ∃ y0, V / M = y0 := ⟨_, rfl⟩
  rw [hx0] at bx0 w1
  rw [hy0] at by0 w2
  rw [hx0, hy0] at hdiv
  have a0 : Below w.heap.size w (w.alloc lnil) := (Below.refl _ _).alloc (Nat.le_refl _) _
  have W1 := hide w1
  have W2 := hide w2
  have HZ := hide hz
  have hbb := World.block_lt_of_cell? _ _ hcell
  have hcell1 : (w.alloc lnil).cell? ⟨bb, ob + (k + 1), none⟩ = some (.int .u64 (t : Int)) := (World.cell?_alloc_lt _ _ _ hbb).trans hcell
  clear hx hy dx dy hle htop htQ hYQ hY63 hYQ2 hlx hly hh hh2 ht hU hV hM w1 w2 hz hs hbb hcell
  have e1 : (k : Int) + 2 - 1 = (k : Int) + 1 := by omega
  go_enter Tryz.func106, Tryz.ntmps106
  go_wp2_with fail
  refine (HZ.out _).mono ?_
  rintro e w1 ⟨rfl, rfl⟩
  clear HZ hcell1
  go_wp2_with fail
  refine (W1.out _ a0).mono ?_
  rintro e w1 ⟨rfl, n1, rfl⟩
  go_wp2_with fail
  refine (W2.out _ (below_drewN a0 n1)).mono ?_
  rintro e w1 ⟨rfl, n2, rfl⟩
  go_wp2_with fail
  have start : FlRel w U V x0 y0 (.int .u64 (x0 : Int)) (.int .u64 (y0 : Int)) (((w.alloc lnil).drewN (n1 + n2)).alloc (.cells #[.bool false, .int .u64 1, .int .u64 0, .int .u64 0, .int .u64 1] 142)) := by
    refine ⟨false, 1, 0, 0, 1, x0, y0, rfl, rfl, bx0, by0, by decide +kernel, Q_pos, Q_pos, by decide +kernel, hide (LInv.start U V x0 y0 hdiv), ?_, ?_, ?_⟩
    · have h := heap_alloc_new ((w.alloc lnil).drewN (n1 + n2)) (lblk false 1 0 0 1)
      have e : ((w.alloc lnil).drewN (n1 + n2)).heap.size = w.heap.size + 1 := by simp
      rw [e] at h
      exact h
    · exact (((Below.refl ((w.alloc lnil).drewN (n1 + n2)).heap.size _).alloc (Nat.le_refl _) (lblk false 1 0 0 1)).block w.heap.size (by simp)).trans (heap_alloc_new w lnil)
    · exact (below_drewN a0 (n1 + n2)).alloc (by simp) _
  clear W1 W2 a0 hdiv e1 hm
  go_loopw [6, 7] (fun xv yv wr => FlRel w U V x0 y0 xv yv wr) (fun _ yv _ => (intOf yv).toNat)
  case atStart => exact start
  case round =>
    clear start
    obtain ⟨odd, p0, p1, q0, q1, x, y, rfl, rfl, bx, bY, b0, b1, b2, b3, hi, hl, hr, hbel⟩ := hrel
    have l0 := cell_of_row wr (w.heap.size + 1) 0 _ _ _ hl
    have l1 := cell_of_row wr (w.heap.size + 1) 1 _ _ _ hl
    have l2 := cell_of_row wr (w.heap.size + 1) 2 _ _ _ hl
    have l3 := cell_of_row wr (w.heap.size + 1) 3 _ _ _ hl
    have l4 := cell_of_row wr (w.heap.size + 1) 4 _ _ _ hl
    by_cases h0 : y = 0
    · subst h0
      have t0 : (((0 : Int) != 0)) = false := rfl
      have F := hide (fl_out hi.out hx0 hy0 hMp hUpos b0 b1 b2 b3 hr hbel)
      have r0 := cell_of_row wr w.heap.size 0 _ _ _ hr
      have r1 := cell_of_row wr w.heap.size 1 _ _ _ hr
      have r2 := cell_of_row wr w.heap.size 2 _ _ _ hr
      have r3 := cell_of_row wr w.heap.size 3 _ _ _ hr
      have r4 := cell_of_row wr w.heap.size 4 _ _ _ hr
      have f0 := frozen_of_row wr w.heap.size 0 _ _ hr
      have f1 := frozen_of_row wr w.heap.size 1 _ _ hr
      have f2 := frozen_of_row wr w.heap.size 2 _ _ hr
      have f3 := frozen_of_row wr w.heap.size 3 _ _ hr
      have f4 := frozen_of_row wr w.heap.size 4 _ _ hr
      clear hi hl hr hbel bx bY b0 b1 b2 b3
      simp at l0 l1 l2 l3 l4 r0 r1 r2 r3 r4
      go_wp2_with fail
      exact bodyPost_ret (lret rfl _ _ w.heap.size #[.bool odd, .int .u64 (p0 : Int), .int .u64 (p1 : Int), .int .u64 (q0 : Int), .int .u64 (q1 : Int)] rfl rfl F.out.1) rfl F.out.2
    · have t0 : ((y : Int) != 0) = true := by rw [bne_iff_ne]; omega
      have t1 : ((y : Int) == 0) = false := beq_eq_false_iff_ne.2 (by omega)
      have hy1 : (1 : Int) ≤ (y : Int) := by omega
      obtain ⟨B0, B1, B2⟩ := hi.out.bounds h0
      have hst := hi.out.step h0
      have hps := hi.out.pos h0
      have hry : x % y < y := Nat.mod_lt _ (by omega)
      have htx : x / y ≤ x := Nat.div_le_self _ _
      have eq : (x : Int) / (y : Int) = ((x / y : Nat) : Int) := (Int.natCast_ediv x y).symm
      have er : (x : Int) % (y : Int) = ((x % y : Nat) : Int) := (Int.natCast_emod x y).symm
      obtain ⟨t, ht⟩ : ∃ t, x / y = t := ⟨_, rfl⟩
      obtain ⟨r, hr'⟩ : ∃ r, x % y = r := ⟨_, rfl⟩
      rw [ht] at B0 B1 B2 eq hst htx hps
      rw [hr'] at B2 er hry hst
      obtain ⟨a0, ha0⟩ : ∃ a, t * q0 = a := ⟨_, rfl⟩
      obtain ⟨a1, ha1⟩ : ∃ a, t * q1 = a := ⟨_, rfl⟩
      rw [ha0] at B0 hst
      rw [ha1] at B1 B2 hst hps
      obtain ⟨n0, hn0⟩ : ∃ a, p0 + a0 = a := ⟨_, rfl⟩
      obtain ⟨n1, hn1⟩ : ∃ a, p1 + a1 = a := ⟨_, rfl⟩
      have m0 : IntKind.u64.wrap ((t : Int) * (q0 : Int)) = (a0 : Int) := by rw [← Int.natCast_mul, wrapM, ha0, Nat.mod_eq_of_lt (by omega)]
      have m1 : IntKind.u64.wrap ((t : Int) * (q1 : Int)) = (a1 : Int) := by rw [← Int.natCast_mul, wrapM, ha1, Nat.mod_eq_of_lt (by omega)]
      have s0 : (p0 : Int) + (a0 : Int) = (n0 : Int) := by omega
      have s1 : (p1 : Int) + (a1 : Int) = (n1 : Int) := by omega
      rw [hn0] at B0 hst
      rw [hn1] at B1 B2 hst hps
      have bn0 : n0 < Q := by omega
      have bn1 : n1 < Q := by omega
      have i0 : (n0 : Int) ≤ 18446744073709551615 := by unfold Q at bn0; omega
      have i1 : (n1 : Int) ≤ 18446744073709551615 := by unfold Q at bn1; omega
      have ix : (x : Int) ≤ 18446744073709551615 := by unfold Q at bx; omega
      have it : (t : Int) ≤ 18446744073709551615 := by omega
      have iy : (y : Int) ≤ 18446744073709551615 := by unfold Q at bY; omega
      simp at l0 l1 l2 l3 l4
      have HB0 := hide B0
      have HB1 := hide B1
      have HB2 := hide B2
      have HST := hide hst
      have HN0 := hide hn0
      have HN1 := hide hn1
      clear B0 B1 B2 hst hn0 hn1 ha0 ha1 ht hr'
      go_wp2_with fail
      go_quiet (fail)
      obtain ⟨W, hW⟩ : ∃ W, W = wr.drewN nq := ⟨_, rfl⟩
      rw [← hW]
      have hbel2 : Below w.heap.size w W := by rw [hW]; exact below_drewN hbel nq
      have hl2 : W.heap[w.heap.size + 1]? = some (lblk odd p0 p1 q0 q1) := by rw [hW]; exact hl
      have hr2 : W.heap[w.heap.size]? = some lnil := by rw [hW]; exact hr
      clear hbel hl hr l0 l1 l2 l3 l4 hW
      have hlt := (Array.getElem?_eq_some_iff.1 hl2).1
      have l0 := cell_of_row W (w.heap.size + 1) 0 _ _ _ hl2
      have l1 := cell_of_row W (w.heap.size + 1) 1 _ _ _ hl2
      have l2 := cell_of_row W (w.heap.size + 1) 2 _ _ _ hl2
      have l3 := cell_of_row W (w.heap.size + 1) 3 _ _ _ hl2
      have l4 := cell_of_row W (w.heap.size + 1) 4 _ _ _ hl2
      simp at l0 l1 l2 l3 l4
      have ER := hide er
      have HRY := hide hry
      have r0 := cell_of_row W w.heap.size 0 _ _ _ hr2
      have r1 := cell_of_row W w.heap.size 1 _ _ _ hr2
      have r2 := cell_of_row W w.heap.size 2 _ _ _ hr2
      have r3 := cell_of_row W w.heap.size 3 _ _ _ hr2
      have r4 := cell_of_row W w.heap.size 4 _ _ _ hr2
      simp at r0 r1 r2 r3 r4
      have hlt0 : w.heap.size < W.heap.size := by omega
      have HBel := hide hbel2
      have Hr := hide hr2
      have Hl := hide hl2
      have F := hide (fl_more (o := .cells #[.int .u64 (n0 : Int), .int .u64 (n1 : Int)] 140) (by simp only [World.size_setCell]; exact hbel2.size) (fl_out hi.out hx0 hy0 hMp hUpos b0 b1 b2 b3 hr2 hbel2))
      have f0 := frozen_of_row W w.heap.size 0 _ _ hr2
      have f1 := frozen_of_row W w.heap.size 1 _ _ hr2
      have f2 := frozen_of_row W w.heap.size 2 _ _ hr2
      have f3 := frozen_of_row W w.heap.size 3 _ _ hr2
      have f4 := frozen_of_row W w.heap.size 4 _ _ hr2
      clear hl2 hr2 hbel2
      by_cases c1 : r < n1
      · have d1 : decide ((r : Int) < (n1 : Int)) = true := decide_eq_true (by omega)
        simp only [er]
        go_wp2_with fail
        exact bodyPost_ret (lret rfl _ _ w.heap.size #[.bool odd, .int .u64 (p0 : Int), .int .u64 (p1 : Int), .int .u64 (q0 : Int), .int .u64 (q1 : Int)] rfl rfl F.out.1) rfl F.out.2
      · have d1 : decide ((r : Int) < (n1 : Int)) = false := decide_eq_false (by omega)
        have hqn : q1 + n1 < Q := by
          have := HB2.out (by omega)
          omega
        by_cases c2 : y - r < q1 + n1
        · have hir : (r : Int) ≤ (y : Int) := by omega
          have d2 : decide ((y : Int) - (r : Int) < (q1 : Int) + (n1 : Int)) = true := decide_eq_true (by omega)
          have i2 : (q1 : Int) + (n1 : Int) ≤ 18446744073709551615 := by unfold Q at hqn; omega
          simp only [er]
          go_wp2_with fail
          exact bodyPost_ret (lret rfl _ _ w.heap.size #[.bool odd, .int .u64 (p0 : Int), .int .u64 (p1 : Int), .int .u64 (q0 : Int), .int .u64 (q1 : Int)] rfl rfl F.out.1) rfl F.out.2
        · have hir : (r : Int) ≤ (y : Int) := by omega
          have d2 : decide ((y : Int) - (r : Int) < (q1 : Int) + (n1 : Int)) = false := decide_eq_false (by omega)
          have i2 : (q1 : Int) + (n1 : Int) ≤ 18446744073709551615 := by unfold Q at hqn; omega
          have Inv := hide (HST.out (by omega) (by omega))
          simp only [er]
          go_wp2_with fail
          have g0 := frozen_of_row W (w.heap.size + 1) 0 _ _ Hl.out
          have g1 := frozen_of_row W (w.heap.size + 1) 1 _ _ Hl.out
          have g2 := frozen_of_row W (w.heap.size + 1) 2 _ _ Hl.out
          have g3 := frozen_of_row W (w.heap.size + 1) 3 _ _ Hl.out
          have g4 := frozen_of_row W (w.heap.size + 1) 4 _ _ Hl.out
          have fin := fl_next (o := .cells #[.int .u64 (n0 : Int), .int .u64 (n1 : Int)] 140) Inv.out bY (by omega) b2 b3 bn0 bn1 Hl.out Hr.out HBel.out
          have Fin := hide fin
          clear fin Inv F Hr HBel
          go_region
          all_goals
            go_wp2_with fail
            go_roundw
            case rel => exact Fin.out
            case measure => simp [intOf]; omega
end Go.Proofs.YtpfeacdhplbblaaGreat
