
/-
 The walk of BranchFinds: true.
-/
import Derived.Test.YtehdkdoaamlkdaaGreatBranchEvenW

namespace Go.Proofs.YtehdkdoaamlkdaaGreat
open Go.RowKit Go.Proofs.YtehdkdoaamlkdaaGreat.Num Go.Maps
set_option linter.unusedVariables false
set_option linter.unusedSimpArgs false
set_option maxRecDepth 100000
def AnyB (fl : List Bool) (d : List Rx) (k : Nat) : Prop := ∃ i x, i < k ∧ fl[i]? = some true ∧ d[i]? = some x ∧ brk x.r
theorem AnyB.none (fl : List Bool) (d : List Rx) : ¬ AnyB fl d 0 := by
 rintro ⟨i, x, h, -⟩
 omega
theorem AnyB.mono {fl : List Bool} {d : List Rx} {k m : Nat} (h : AnyB fl d k) (hk : k ≤ m) : AnyB fl d m := by
 obtain ⟨i, x, h1, h2⟩ := h
 exact ⟨i, x, by omega, h2⟩
theorem AnyB.last {fl : List Bool} {d : List Rx} {k : Nat} (h : AnyB fl d (k + 1)) (hn : ¬ AnyB fl d k) : fl[k]? = some true ∧ ∃ x, d[k]? = some x ∧ brk x.r := by
 obtain ⟨i, x, h1, h2, h3, h4⟩ := h
 by_cases e : i = k
 ·subst e
  exact ⟨h2, x, h3, h4⟩
 ·exact absurd ⟨i, x, by omega, h2, h3, h4⟩ hn
section
open Classical
theorem chz_spec (S : Rat → Rat) (fl : List Bool) (d : List Rx) : ∀ k, (∀ i q, chz S fl d k = some (i, q) → i < k ∧ fl[i]? = some true ∧ ∃ x, d[i]? = some x ∧ brk x.r) ∧ (chz S fl d k = none → ¬ AnyB fl d k)
 | 0 => ⟨(fun i q h => by cases h), fun _ => AnyB.none fl d⟩
 | k + 1 => by
  obtain ⟨h1, h2⟩ := chz_spec S fl d k
  by_cases hc : fl[k]? = some true ∧ ∃ x, d[k]? = some x ∧ brk x.r
  ·obtain ⟨c1, x, c2, c3⟩ := id hc
   cases ho : chz S fl d k with
   | none =>
    rw [chz_first c1 c2 c3 ho]
    refine ⟨fun i q h => ?_, (fun h => by cases h)⟩
    cases h
    exact ⟨by omega, c1, x, c2, c3⟩
   | some p =>
    obtain ⟨i, q⟩ := p
    by_cases hq : q < S (fr x.r)
    ·rw [chz_more c1 c2 c3 ho hq]
     refine ⟨fun i q h => ?_, (fun h => by cases h)⟩
     cases h
     exact ⟨by omega, c1, x, c2, c3⟩
    ·rw [chz_less c1 c2 c3 ho hq]
     refine ⟨fun i' q' h => ?_, fun h => by cases h⟩
     cases h
     obtain ⟨a, b⟩ := h1 i q ho
     exact ⟨by omega, b⟩
  ·rw [chz_skip hc]
   refine ⟨fun i q h => ?_, fun h ha => hc (ha.last (h2 h))⟩
   obtain ⟨a, b⟩ := h1 i q h
   exact ⟨by omega, b⟩
end
def Tb1 (b : Bool) (P : Prop) : Prop := b = true ↔ P
theorem Tb1.t {b : Bool} {P : Prop} (h : Tb1 b P) (hp : P) : b = true := h.2 hp
theorem Tb1.f {b : Bool} {P : Prop} (h : Tb1 b P) (hp : ¬ P) : b = false := by
 cases b with
 | false => rfl
 | true => exact absurd (h.1 rfl) hp
set_option maxHeartbeats 16000000 in
theorem brfinds_go (w : World) (z : Int) (u : Value) (fl : List Bool) (v : Value) (d : List Rx) (hz : (Lit.int .i64 z).wf = true) (hu : Lr eb1 1 w u fl ∧ fl.length ≤ 140737488351232) (hv : Fv w v d 17592186043904) :
  Calls Tryz.prog 3 #[.int .i64 z, u, v] w fun e w' => e = .returned (.bool true) ∧ Below w.heap.size w w' := by
 obtain ⟨UA, un, uc, rfl⟩ := rv_sl hu.1
 obtain ⟨VA, vn, vc, rfl⟩ := rv_sl hv.1
 have HU := hide hu.1
 have HV := hide hv
 have UL := hide hu.2
 clear hu hv
 go_enter Tryz.func3, Tryz.ntmps3
 go_wp2_with fail
 refine (brspeaks_true w).mono ?_
 rintro e w1 ⟨rfl, bx⟩
 replace HU := hide (HU.out.step bx)
 replace HV := hide (HV.out.step bx)
 have B := hide bx
 clear bx
 go_wp2_with fail
 refine (greatall_c HV.out (by omega)).mono ?_
 rintro e w2 ⟨bx, p, rfl, hp⟩
 replace HU := hide (HU.out.step bx)
 replace HV := hide (HV.out.step bx)
 replace B := hide (Below.step B.out B.out.size bx)
 have HP := hide hp
 clear bx hp
 cases p with
 | true =>
  go_wp2_with fail
  go_ret
  exact ⟨rfl, B.out⟩
 | false =>
  obtain ⟨dl, dw⟩ := HP.out rfl
  replace HV := hide (HV.out.tight dw)
  have DL := hide dl
  clear dl dw HP
  by_cases hz2 : z = 0 ∨ z = 1
  case neg =>
   have hz0 : z ≠ 0 := fun h => hz2 (.inl h)
   have hz1 : z ≠ 1 := fun h => hz2 (.inr h)
   have t2 : (z != 0) = true := by simp [hz0]
   have t3 : (z != 1) = true := by simp [hz1]
   clear hz2
   go_wp2_with fail
   refine (brnewx w2 z hz0 hz1).mono ?_
   rintro e w3 ⟨rfl, bx⟩
   replace B := hide (Below.step B.out B.out.size bx)
   clear bx
   go_wp2_with fail
   go_ret
   exact ⟨rfl, B.out⟩
  case pos =>
   go_wp2_with fail
   refine (brnew_c w2 z hz2).mono ?_
   rintro e w3 ⟨g, S, rfl, hs, he, bx⟩
   have HS := hide (hs 7 26 (by omega) (by omega) (by omega))
   replace HU := hide (HU.out.step bx)
   replace HV := hide (HV.out.step bx)
   replace B := hide (Below.step B.out B.out.size bx)
   clear bx hs he hz2
   go_wp2_with fail
   refine (choose_c (L := 6) HU.out HV.out HS.out (by omega) (by omega) (by omega) (by omega)).mono ?_
   rintro e w4 ⟨hc, bx⟩
   obtain ⟨eu, mu⟩ : un = fl.length ∧ uc ≤ maxLen ∧ un ≤ uc := by
    obtain ⟨A', c', e, h1, h2, h3⟩ := HU.out
    injection e with e1 e2 e3
    exact ⟨e2, by rw [e3]; exact h2, by rw [e2, e3]; exact h1⟩
   obtain ⟨ev, mv⟩ : vn = d.length ∧ vc ≤ maxLen ∧ vn ≤ vc := by
    obtain ⟨A', c', e, h1, h2, h3⟩ := HV.out.1
    injection e with e1 e2 e3
    exact ⟨e2, by rw [e3]; exact h2, by rw [e2, e3]; exact h1⟩
   have hn9 : un ≤ 9223372036854775807 := by unfold maxLen at mu; omega
   have EU := hide eu
   have EV := hide ev
   have HC := hide hc
   replace HU := hide (HU.out.step bx)
   replace HV := hide (HV.out.step bx)
   replace B := hide (Below.step B.out B.out.size bx)
   clear eu ev mu mv hc bx HS
   obtain ⟨cv, ob, rfl, hcv⟩ : ∃ (cv : Int) (ob : Bool), e = .returned (.tuple #[.int .i64 cv, .bool ob]) ∧ ((ob = false ∧ cv = 0 ∧ ¬ AnyB fl d un) ∨ (ob = true ∧ ∃ (i : Nat) (x : Rx), cv = (i : Int) ∧ i < un ∧ i < vn ∧ fl[i]? = some true ∧ d[i]? = some x ∧ brk x.r)) := by
    rcases HC.out with ⟨h1, h2⟩ | ⟨i, q, h1, h2⟩
    ·refine ⟨0, false, h2, .inl ⟨rfl, rfl, ?_⟩⟩
     rintro ⟨i, x, a, b, c, e⟩
     exact (chz_spec S fl d _).2 h1 ⟨i, x, by have := (List.getElem?_eq_some_iff.1 b).1; have := (List.getElem?_eq_some_iff.1 c).1; omega, b, c, e⟩
    ·obtain ⟨a, b, x, c, e⟩ := (chz_spec S fl d _).1 i q h1
     exact ⟨i, true, h2, .inr ⟨rfl, i, x, rfl, by have := EU.out; omega, by have := EV.out; omega, b, c, e⟩⟩
   have CV := hide hcv
   clear hcv HC
   go_wp2_with fail
   go_loopw [11, 39] (fun av iv wr => ∃ (k : Nat) (t : Bool), k ≤ un ∧ iv = .int .i64 (k : Int) ∧ av = .bool t ∧ Hid (Below w4.heap.size w4 wr) ∧ Hid (Tb1 t (AnyB fl d k))) (fun _ iv _ => un - (intOf iv).toNat)
   case atStart => exact ⟨0, false, Nat.zero_le _, rfl, rfl, hide (Below.refl _ _), hide ⟨(fun h => by cases h), fun h => absurd h (AnyB.none fl d)⟩⟩
   case round =>
    obtain ⟨k, t, hk, rfl, rfl, BL, TT⟩ := hrel
    by_cases hlt : k < un
    ·have l1 : (0 : Int) ≤ (k : Int) := by omega
     have l2 : (k : Int) < (un : Int) := by omega
     cases t with
     | true =>
      go_wp2_with fail
      exact ⟨⟨k + 1, true, by omega, by go_num, rfl, BL, hide ⟨fun _ => (TT.out.1 rfl).mono (Nat.le_succ k), fun _ => rfl⟩⟩, by simp [intOf]; omega⟩
     | false =>
      have NA := hide (show ¬ AnyB fl d k from fun h => by have := TT.out.2 h; cases this)
      by_cases hv2 : k < vn
      case neg =>
       have t1 : decide ((k : Int) < (vn : Int)) = false := decide_eq_false (by omega)
       go_wp2_with fail
       exact ⟨⟨k + 1, false, by omega, by go_num, rfl, BL, hide ⟨(fun h => by cases h), fun h => by
        obtain ⟨-, x, hx, -⟩ := h.last NA.out
        have := (List.getElem?_eq_some_iff.1 hx).1
        have := EV.out
        omega⟩⟩, by simp [intOf]; omega⟩
      case pos =>
       have t1 : decide ((k : Int) < (vn : Int)) = true := decide_eq_true (by omega)
       have l3 : (k : Int) < (vn : Int) := by omega
       obtain ⟨b, hb⟩ := len_of (d := fl) (k := k) (by have := EU.out; omega)
       obtain ⟨x, hx⟩ := len_of (d := d) (k := k) (by have := EV.out; omega)
       have HB := hide hb
       have HX := hide hx
       obtain ⟨b1, off1, e1, hb1, hc1⟩ := (HU.out.step BL.out).get hb
       subst e1
       have u0 := hc1 0 _ rfl
       obtain ⟨b2, off2, e2, hb2, hc2⟩ := (HV.out.1.step BL.out).get hx
       subst e2
       have v0 := hc2 0 _ rfl
       have v1 := hc2 1 _ rfl
       have v2 := hc2 2 _ rfl
       rw [Nat.add_zero] at u0 v0
       rw [Nat.mul_one] at u0
       have RX := hide ((HV.out.step BL.out).2 x (List.mem_of_getElem? hx))
       clear hb hx hb1 hc1 hb2 hc2
       cases b with
       | false =>
        go_wp2_with fail
        exact ⟨⟨k + 1, false, by omega, by go_num, rfl, BL, hide ⟨(fun h => by cases h), fun h => by
         obtain ⟨hf, -⟩ := h.last NA.out
         rw [HB.out] at hf
         cases hf⟩⟩, by simp [intOf]; omega⟩
       | true =>
        go_wp2_with fail
        refine (rof_f (L := 6) RX.out (by omega) (by omega)).mono ?_
        rintro e w5 ⟨y, rfl, ey, ry, bx⟩
        have EY := hide ey
        have RY := hide ry
        replace BL := hide (Below.step1 BL.out bx)
        clear ey ry bx u0 v0 v1 v2
        go_wp2_with fail
        refine ((rqwhole_any (L := 30) RY.out (by omega)).mono (R' := fun e w' => ∃ t : Bool, e = .returned (.bool t) ∧ (t = true ↔ ¬ brk x.r) ∧ Below w5.heap.size w5 w') (fun e w' h => ⟨_, h.1, by unfold brk; rw [EY.out]; simp, h.2⟩)).mono ?_
        rintro e w6 ⟨t, rfl, ht, bx⟩
        have HT := hide ht
        replace BL := hide (Below.step1 BL.out bx)
        clear ht bx RY EY
        cases t with
        | true =>
         go_wp2_with fail
         exact ⟨⟨k + 1, false, by omega, by go_num, rfl, BL, hide ⟨(fun h => by cases h), fun h => by
          obtain ⟨-, x', hx', hb'⟩ := h.last NA.out
          rw [HX.out] at hx'
          cases hx'
          exact absurd hb' (HT.out.1 (by trivial))⟩⟩, by simp [intOf]; omega⟩
        | false =>
         have BK := hide (show brk x.r by
          apply Classical.byContradiction
          intro h
          have := HT.out.2 h
          cases this)
         go_wp2_with fail
         exact ⟨⟨k + 1, true, by omega, by go_num, rfl, BL, hide ⟨fun _ => ⟨k, x, by omega, HB.out, HX.out, BK.out⟩, fun _ => rfl⟩⟩, by simp [intOf]; omega⟩
    ·obtain rfl : k = un := by omega
     replace HU := hide (HU.out.step BL.out)
     replace HV := hide (HV.out.step BL.out)
     replace B := hide (Below.step B.out B.out.size BL.out)
     rcases CV.out with ⟨rfl, rfl, hno⟩ | ⟨rfl, i, x, rfl, hi1, hi2, hf, hx, hbk⟩
     ·obtain rfl := TT.out.f hno
      clear hno
      go_wp2_with fail
      go_ret
      exact ⟨rfl, B.out⟩
     ·obtain rfl := TT.out.t ⟨i, x, hi1, hf, hx, hbk⟩
      have BK := hide hbk
      have l1 : (0 : Int) ≤ (i : Int) := by omega
      have l2 : (i : Int) < (k : Int) := by omega
      have l3 : (i : Int) < (vn : Int) := by omega
      have t1 : decide ((0 : Int) ≤ (i : Int)) = true := decide_eq_true l1
      have t2 : decide ((i : Int) < (k : Int)) = true := decide_eq_true l2
      have t3 : decide ((i : Int) < (vn : Int)) = true := decide_eq_true l3
      obtain ⟨b1, off1, e1, hb1, hc1⟩ := HU.out.get hf
      subst e1
      have u0 := hc1 0 _ rfl
      obtain ⟨b2, off2, e2, hb2, hc2⟩ := HV.out.1.get hx
      subst e2
      have v0 := hc2 0 _ rfl
      have v1 := hc2 1 _ rfl
      have v2 := hc2 2 _ rfl
      rw [Nat.add_zero] at u0 v0
      rw [Nat.mul_one] at u0
      have RX := hide (HV.out.2 x (List.mem_of_getElem? hx))
      clear hf hx hb1 hc1 hb2 hc2 hbk CV
      go_wp2_with fail
      refine (rof_f (L := 6) RX.out (by omega) (by omega)).mono ?_
      rintro e w5 ⟨y, rfl, ey, ry, bx⟩
      have EY := hide ey
      have RY := hide ry
      replace B := hide (Below.step B.out B.out.size bx)
      clear ey ry bx u0 v0 v1 v2
      go_wp2_with fail
      refine ((rqwhole_any (L := 30) RY.out (by omega)).mono (R' := fun e w' => e = .returned (.bool false) ∧ Below w5.heap.size w5 w') (fun e w' h => ⟨by rw [h.1, EY.out]; rw [decide_eq_false BK.out], h.2⟩)).mono ?_
      rintro e w6 ⟨rfl, bx⟩
      replace B := hide (Below.step B.out B.out.size bx)
      clear bx
      go_wp2_with fail
      go_ret
      exact ⟨rfl, B.out⟩
end Go.Proofs.YtehdkdoaamlkdaaGreat
