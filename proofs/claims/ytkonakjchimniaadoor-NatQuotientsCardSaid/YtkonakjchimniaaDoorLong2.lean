/-
  nat.guess: how often, or a little more.
-/
import Derived.Test.YtkonakjchimniaaDoorLong1
import Derived.Deep.QuietTactic
import Derived.BigQuiet
namespace Go.Proofs.YtkonakjchimniaaDoor
open Go.RowKit Go.Proofs.YtkonakjchimniaaDoor.Num
set_option linter.unusedVariables false
set_option maxRecDepth 100000

section
variable {p V Y a0 a1 a2 b1 b2 q r : Nat}
/-- The topmost words of a list. -/
theorem top2 {zs : List Nat} {n p : Nat} (hn : n = p + 1) (hz : zs.length = n + 1) (dz : Dg Q zs) (h0 : zs.getD n 0 = a0) (h1 : zs.getD p 0 = a1) : vl Q zs < (a0 * Q + a1 + 1) * Q ^ p := by
  have e0 := take_next zs n a0 h0
  rw [List.take_of_length_le (by omega), hn, take_next zs p a1 h1, Nat.pow_succ] at e0
  have h := vl_take_lt Q_pos dz p
  rw [e0, Nat.add_mul, Nat.add_mul, Nat.one_mul]
  have e1 : Q ^ p * Q * a0 = a0 * Q * Q ^ p := by rw [Nat.mul_comm, Nat.mul_comm (Q ^ p), Nat.mul_assoc]
  have e2 : Q ^ p * a1 = a1 * Q ^ p := Nat.mul_comm _ _
  omega
theorem top3 {zs : List Nat} {n p k : Nat} (hn : n = p + 1) (hp : p = k + 1) (hz : zs.length = n + 1) (dz : Dg Q zs) (h0 : zs.getD n 0 = a0) (h1 : zs.getD p 0 = a1) (h2 : zs.getD k 0 = a2) :
    vl Q zs < ((a0 * Q + a1) * Q + a2 + 1) * Q ^ k := by
  have e0 := take_next zs n a0 h0
  rw [List.take_of_length_le (by omega), hn, take_next zs p a1 h1, hp, take_next zs k a2 h2] at e0
  simp only [Nat.pow_succ] at e0
  have h := vl_take_lt Q_pos dz k
  rw [e0]
  generalize Q ^ k = K at *
  have e1 : K * Q * Q * a0 = a0 * Q * Q * K := by ac_rfl
  have e2 : K * Q * a1 = a1 * Q * K := by ac_rfl
  have e3 : K * a2 = a2 * K := Nat.mul_comm _ _
  rw [Nat.add_mul, Nat.add_mul, Nat.add_mul, Nat.add_mul, Nat.one_mul]
  omega
theorem bot1 {ys : List Nat} {n p : Nat} (hn : n = p + 1) (hy : ys.length = n) (h1 : ys.getD p 0 = b1) : b1 * Q ^ p ≤ vl Q ys := by
  have e0 := take_next ys p b1 h1
  rw [List.take_of_length_le (by omega)] at e0
  rw [e0, Nat.mul_comm]
  omega
theorem bot2 {ys : List Nat} {n p k : Nat} (hn : n = p + 1) (hp : p = k + 1) (hy : ys.length = n) (h1 : ys.getD p 0 = b1) (h2 : ys.getD k 0 = b2) : (b1 * Q + b2) * Q ^ k ≤ vl Q ys := by
  have e0 := take_next ys p b1 h1
  rw [List.take_of_length_le (by omega), hp, take_next ys k b2 h2, Nat.pow_succ] at e0
  rw [e0, Nat.add_mul]
  generalize Q ^ k = K at *
  have e2 : K * Q * b1 = b1 * Q * K := by rw [Nat.mul_comm, Nat.mul_comm K, Nat.mul_assoc]
  have e3 : K * b2 = b2 * K := Nat.mul_comm _ _
  omega
/-- The quotient is no more than that of the topmost. -/
theorem quo_top {V Y t s P : Nat} (hV : V < (t + 1) * P) (hY : s * P ≤ Y) (hs : 0 < s) : V / Y * s ≤ t := by
  have h1 : V / Y * Y ≤ V := Nat.div_mul_le_self _ _
  have h2 : V / Y * (s * P) ≤ V / Y * Y := Nat.mul_le_mul_left _ hY
  have h3 : V / Y * s * P < (t + 1) * P := by rw [Nat.mul_assoc]; omega
  have := Nat.lt_of_mul_lt_mul_right h3
  omega
theorem guess_down {t T : Nat} (h3 : T * (b1 * Q + b2) ≤ t * Q + a2) (he : q * b1 + r = t) (hgt : r * Q + a2 < q * b2) : T + 1 ≤ q := by
  rcases Nat.lt_or_ge T q with h | h
  · exact h
  · have h1 : q * (b1 * Q + b2) ≤ T * (b1 * Q + b2) := Nat.mul_le_mul_right _ h
    have h2 : q * (b1 * Q + b2) = q * b1 * Q + q * b2 := by rw [Nat.mul_add, Nat.mul_assoc]
    have h4 : t * Q = q * b1 * Q + r * Q := by rw [← he, Nat.add_mul]
    omega
end

def GsRel (t b1 T : Nat) (qv rv : Value) : Prop :=
  ∃ q r : Nat, qv = .int .u64 (q : Int) ∧ rv = .int .u64 (r : Int) ∧ q < Q ∧ r < Q ∧ Hid (q * b1 + r = t) ∧ Hid (T ≤ q)

/-- What it leaves: no less than the quotient. -/
def GsRet (w : World) (T : Nat) (e : Ending) (w' : World) : Prop := ∃ q : Nat, e = .returned (.int .u64 (q : Int)) ∧ q < Q ∧ T ≤ q ∧ ∃ m, w' = w.drewN m

set_option maxHeartbeats 4000000 in
theorem guess_any (B : Nat) (A D : Option Addr) (n c d : Nat) (zs ys : List Nat) (w : World) (hx : Rd .u64 w B A (n + 1) zs) (hy : Rd .u64 w B D n ys) (dz : Dg Q zs) (dy : Dg Q ys)
    (hn2 : 2 ≤ n) (hn : n ≤ 4611686018427387904) (htop : 0 < ys.getD (n - 1) 0) (hV : vl Q zs < vl Q ys * Q) :
    Calls Tryd.prog 86 #[.slice A (n + 1) c, .slice D n d] w (GsRet w (vl Q zs / vl Q ys)) := by
  obtain ⟨p1, hp1⟩ : ∃ p1, n = p1 + 1 := ⟨n - 1, by omega⟩
  obtain ⟨p2, hp2⟩ : ∃ p2, p1 = p2 + 1 := ⟨p1 - 1, by omega⟩
  rw [show n - 1 = p1 by omega] at htop
  obtain ⟨a0, ha0⟩ : ∃ a0, zs.getD n 0 = a0 := ⟨_, rfl⟩
  obtain ⟨a1, ha1⟩ : ∃ a1, zs.getD p1 0 = a1 := ⟨_, rfl⟩
  obtain ⟨a2, ha2⟩ : ∃ a2, zs.getD p2 0 = a2 := ⟨_, rfl⟩
  obtain ⟨b1, hb1⟩ : ∃ b1, ys.getD p1 0 = b1 := ⟨_, rfl⟩
  obtain ⟨b2, hb2⟩ : ∃ b2, ys.getD p2 0 = b2 := ⟨_, rfl⟩
  have q0 : a0 < Q := by rw [← ha0]; exact dz.getD Q_pos _
  have q1 : a1 < Q := by rw [← ha1]; exact dz.getD Q_pos _
  have q2 : a2 < Q := by rw [← ha2]; exact dz.getD Q_pos _
  have r1 : b1 < Q := by rw [← hb1]; exact dy.getD Q_pos _
  have r2 : b2 < Q := by rw [← hb2]; exact dy.getD Q_pos _
  rw [hb1] at htop
  have hY1 := bot1 hp1 hy.1 hb1
  have hT2 := quo_top (top2 hp1 hx.1 dz ha0 ha1) hY1 htop
  have hY2 := bot2 hp1 hp2 hy.1 hb1 hb2
  have hT3 := quo_top (top3 hp1 hp2 hx.1 dz ha0 ha1 ha2) hY2 (by
    have : 1 * Q ≤ b1 * Q := Nat.mul_le_mul_right _ htop
    have := Q_pos
    omega)
  have hTQ : vl Q zs / vl Q ys < Q := by
    rw [Nat.div_lt_iff_lt_mul (Nat.pos_of_ne_zero (by
      intro h
      rw [h, Nat.zero_mul] at hV
      omega)), Nat.mul_comm]
    exact hV
  obtain ⟨T, hT⟩ : ∃ T, Hid (vl Q zs / vl Q ys = T) := ⟨_, hide rfl⟩
  rw [hT.out] at hT2 hT3 hTQ ⊢
  obtain ⟨ba, oa, hA, _, ca0⟩ := hx.at_ (show n < n + 1 by omega)
  obtain ⟨ba1, oa1, hA1, _, ca1⟩ := hx.at_ (show p1 < n + 1 by omega)
  obtain ⟨ba2, oa2, hA2, _, ca2⟩ := hx.at_ (show p2 < n + 1 by omega)
  obtain ⟨bb, ob, hD, _, cb1⟩ := hy.at_ (show p1 < n by omega)
  obtain ⟨bb2, ob2, hD2, _, cb2⟩ := hy.at_ (show p2 < n by omega)
  subst hA
  subst hD
  cases hA1; cases hA2; cases hD2
  rw [ha0] at ca0
  rw [ha1] at ca1
  rw [ha2] at ca2
  rw [hb1] at cb1
  rw [hb2] at cb2
  have w1 : IntKind.i64.wrap ((n : Int) - 1) = (p1 : Int) := by rw [IntWalk.i64_in _ (by omega)]; omega
  have w2 : IntKind.i64.wrap ((n : Int) - 2) = (p2 : Int) := by rw [IntWalk.i64_in _ (by omega)]; omega
  have i1 : (p1 : Int) < (n : Int) := by omega
  have i2 : (p2 : Int) < (n : Int) := by omega
  have i3 : (n : Int) < (n : Int) + 1 := by omega
  have i4 : (p1 : Int) < (n : Int) + 1 := by omega
  have i5 : (p2 : Int) < (n : Int) + 1 := by omega
  have HTQ := hide hTQ
  have HT3 := hide hT3
  clear hx hy dz dy hp1 hp2 ha0 ha1 ha2 hb1 hb2 hY1 hY2 hV hTQ hT3 hT
  by_cases hge : b1 ≤ a0
  · clear hT2
    go_enter Tryd.func86, Tryd.ntmps86
    go_wp2_with fail
    go_quiet (fail)
    go_wp2_with fail
    go_ret
    exact ⟨18446744073709551615, rfl, by unfold Q; omega, by have := HTQ.out; unfold Q at this; omega, _, rfl⟩
  · have hlt : a0 < b1 := by omega
    have hdiv := fun W => div64 a0 a1 b1 W r1 q1 hlt
    have hst : GsRel (a0 * Q + a1) b1 T (.int .u64 (((a0 * Q + a1) / b1 : Nat) : Int)) (.int .u64 (((a0 * Q + a1) % b1 : Nat) : Int)) := by
      refine ⟨_, _, rfl, rfl, ?_, Nat.lt_trans (Nat.mod_lt _ htop) r1, hide (Nat.div_add_mod' _ _), hide ((Nat.le_div_iff_mul_le htop).2 hT2)⟩
      rw [Nat.div_lt_iff_lt_mul htop]
      have h5 : Q * (a0 + 1) ≤ Q * b1 := Nat.mul_le_mul_left _ hlt
      rw [Nat.mul_add, Nat.mul_comm Q a0] at h5
      omega
    obtain ⟨t2, ht2⟩ : ∃ t2, Hid (a0 * Q + a1 = t2) := ⟨_, hide rfl⟩
    rw [ht2.out] at hst
    have HT3' : Hid (T * (b1 * Q + b2) ≤ t2 * Q + a2) := hide (by rw [← ht2.out]; exact HT3.out)
    rw [ht2.out] at hdiv
    obtain ⟨q, hq⟩ : ∃ q, t2 / b1 = q := ⟨_, rfl⟩
    obtain ⟨r, hr⟩ : ∃ r, t2 % b1 = r := ⟨_, rfl⟩
    rw [hq, hr] at hdiv hst
    have Hdiv := hide hdiv
    have Hst := hide hst
    have HT := hide htop
    clear hT2 HT3 ht2 hq hr hdiv hst htop HTQ
    go_enter Tryd.func86, Tryd.ntmps86
    go_wp2_with fail
    go_quiet (fail)
    go_wp2_with fail
    replace ca0 : (w.drewN nq).cell? _ = _ := ca0
    replace ca1 : (w.drewN nq).cell? _ = _ := ca1
    replace ca2 : (w.drewN nq).cell? _ = _ := ca2
    replace cb1 : (w.drewN nq).cell? _ = _ := cb1
    replace cb2 : (w.drewN nq).cell? _ = _ := cb2
    have hdr : Hid (∀ m, ∃ k, (w.drewN nq).drewN m = w.drewN k) := hide (fun m => ⟨_, World.drewN_drewN _ _ _⟩)
    generalize w.drewN nq = W at *
    go_quiet ((go_at_call 83; exact Calls.quiet_of (Hdiv.out _)))
    go_wp2_with fail
    go_loop [6, 7] (fun qv rv => GsRel t2 b1 T qv rv) (fun qv _ => (intOf qv).toNat)
    case atStart => exact Hst.out
    case round =>
      clear Hst Hdiv
      obtain ⟨q, r, rfl, rfl, hq, hr, he, hT⟩ := hrel
      have hmul := hide (fun W => mul64 q b2 hq r2 W)
      have hms := mul_spec q b2
      have hadd := add64_0 r b1
      have has := add_spec r b1 0
      have hal := addLo_lt r b1 0
      obtain ⟨hi, hhi⟩ : ∃ hi, mulHi q b2 = hi := ⟨_, rfl⟩
      obtain ⟨lo, hlo⟩ : ∃ lo, mulLo q b2 = lo := ⟨_, rfl⟩
      have hloQ : lo < Q := by rw [← hlo]; exact mulLo_lt _ _
      rw [hhi, hlo] at hmul hms
      obtain ⟨al, hal'⟩ : ∃ al, addLo r b1 0 = al := ⟨_, rfl⟩
      obtain ⟨ac, hac'⟩ : ∃ ac, addCy r b1 0 = ac := ⟨_, rfl⟩
      rw [hal', hac'] at hadd has
      rw [hal'] at hal
      by_cases hA : hi < r
      · have fin : Hid (∀ m, GsRet w T (.returned (.int .u64 (q : Int))) (W.drewN m)) := hide (fun m => ⟨q, rfl, hq, hT.out, hdr.out m⟩)
        clear hms hadd has hal hhi hlo hal' hac' hq hr he hT hloQ HT3'
        go_wp2_with (go_at_call 94; refine (hmul.out _).mono ?_; rintro e w' ⟨rfl, rfl⟩)
        go_ret
        exact fin.out _
      · by_cases hB : hi = r ∧ lo ≤ a2
        · obtain ⟨rfl, hle⟩ := hB
          have fin : Hid (∀ m, GsRet w T (.returned (.int .u64 (q : Int))) (W.drewN m)) := hide (fun m => ⟨q, rfl, hq, hT.out, hdr.out m⟩)
          clear hms hadd has hal hhi hlo hal' hac' hq hr he hT hloQ HT3'
          go_wp2_with (go_at_call 94; refine (hmul.out _).mono ?_; rintro e w' ⟨rfl, rfl⟩)
          go_ret
          exact fin.out _
        · have hgt : r * Q + a2 < q * b2 := by
            rw [← hms]
            rcases Nat.lt_or_ge r hi with h | h
            · have h5 : Q * (r + 1) ≤ Q * hi := Nat.mul_le_mul_left _ h
              rw [Nat.mul_add, Nat.mul_comm Q r] at h5
              omega
            · have h6 : hi = r := by omega
              have h7 : a2 < lo := by
                rcases Nat.lt_or_ge a2 lo with h8 | h8
                · exact h8
                · exact absurd ⟨h6, h8⟩ hB
              rw [h6, Nat.mul_comm Q r]
              omega
          have hdn := guess_down HT3'.out he.out hgt
          obtain ⟨p, hp⟩ : ∃ p, q = p + 1 := ⟨q - 1, by omega⟩
          have ep : (q : Int) - 1 = (p : Int) := by omega
          have hpQ : p < Q := by omega
          have hTp : T ≤ p := by omega
          have ewp : IntKind.u64.wrap (p : Int) = (p : Int) := wrapN p hpQ
          have hrest : p * b1 + (r + b1) = t2 := by
            rw [← he.out, hp, Nat.add_mul]
            omega
          have hsplit : (hi = r ∧ a2 < lo) ∨ (r < hi ∧ ((hi : Int) == (r : Int)) = false) := by
            rcases Nat.lt_or_ge r hi with h | h
            · exact .inr ⟨h, beq_eq_false_iff_ne.2 (by omega)⟩
            · left
              have h6 : hi = r := by omega
              refine ⟨h6, ?_⟩
              rcases Nat.lt_or_ge a2 lo with h8 | h8
              · exact h8
              · exact absurd ⟨h6, h8⟩ hB
          by_cases hc : ac = 0
          · subst hc
            have hnx : Hid (GsRel t2 b1 T (.int .u64 (p : Int)) (.int .u64 (al : Int))) := hide ⟨p, al, rfl, rfl, hpQ, hal, hide (by rw [← hrest]; omega), hide hTp⟩
            have t0 : (((0 : Int)) != 0) = false := rfl
            have hq1 : 1 ≤ q := by omega
            have hpq : p < q := by omega
            clear hms has hal hhi hlo hal' hac' hr he hT hloQ HT3' hgt hdn hrest hp hpQ hTp hB
            rcases hsplit with ⟨rfl, h8⟩ | ⟨h8, h9⟩
            all_goals
              go_wp2_with (go_at_call 94; refine (hmul.out _).mono ?_; rintro e w' ⟨rfl, rfl⟩)
              go_round
              case rel => exact hnx.out
              case measure => simp [intOf]; omega
          · have t0 : (((ac : Int)) != 0) = true := by rw [bne_iff_ne]; omega
            have fin : Hid (∀ m, GsRet w T (.returned (.int .u64 (p : Int))) (W.drewN m)) := hide (fun m => ⟨p, rfl, hpQ, hTp, hdr.out m⟩)
            have hq1 : 1 ≤ q := by omega
            clear hms has hal hhi hlo hal' hac' hr he hT hloQ HT3' hgt hdn hrest hp hpQ hTp hB
            rcases hsplit with ⟨rfl, h8⟩ | ⟨h8, h9⟩
            all_goals
              go_wp2_with (go_at_call 94; refine (hmul.out _).mono ?_; rintro e w' ⟨rfl, rfl⟩)
              go_ret
              exact fin.out _
end Go.Proofs.YtkonakjchimniaaDoor
