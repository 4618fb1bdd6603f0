
/-
 Lists of fractions by their words: copied, compared; whether one is greater than is looked at.
-/
import Derived.Test.YtehdkdoaamlkdaaGreatVref5
import Derived.Test.YtehdkdoaamlkdaaGreatVecLinW


namespace Go.Proofs.YtehdkdoaamlkdaaGreat
open Go.RowKit Go.Proofs.YtehdkdoaamlkdaaGreat.Num
set_option linter.unusedVariables false
set_option linter.unusedSimpArgs false
set_option maxRecDepth 100000
def Fl (W : World) (v : Value) (d : List Rx) (zs : List Zt) (L : Nat) : Prop := Lr er 3 W v d ∧ d.length = zs.length ∧ ∀ (i : Nat) x z, d[i]? = some x → zs[i]? = some z → Zf W x z L
theorem Fv.tight {W : World} {v : Value} {d : List Rx} {L : Nat} (h : Fv W v d L) (hs : ∀ x ∈ d, x.u.2.1 + x.t.2.1 ≤ 6) : Fv W v d 6 :=
 ⟨h.1, fun x hx => (h.2 x hx).tight (by have := hs x hx; omega) (by have := hs x hx; omega)⟩
def E3 (W : World) (A : Option Addr) (j : Nat) (x : Rx) : Prop := ∃ b off, A = some ⟨b, off, none⟩ ∧ W.cell? ⟨b, off + j, none⟩ = some (.bool x.s) ∧ W.cell? ⟨b, off + j + 1, none⟩ = some (sv x.u) ∧ W.cell? ⟨b, off + j + 2, none⟩ = some (sv x.t)
set_option maxHeartbeats 4000000 in
theorem greatall_c {w : World} {v : Value} {d : List Rx} {L : Nat} (hv : Fv w v d L) (hL : L ≤ 17592186044000) :
  Calls Tryz.prog 6 #[v] w fun e w' => Below w.heap.size w w' ∧ ∃ b : Bool, e = .returned (.bool b) ∧ (b = false → d.length ≤ 30 ∧ ∀ x ∈ d, x.u.2.1 + x.t.2.1 ≤ 6) := by
 obtain ⟨A, c, e1, hc1, hc2, hc3⟩ := id hv.1
 obtain ⟨n, hlen⟩ : ∃ n, n = d.length := ⟨_, rfl⟩
 rw [← hlen] at e1 hc1 ⊢
 subst e1
 have HV := hide hv
 have HN := hide hlen
 unfold maxLen at hc2
 clear hv hc3 hlen
 go_enter Tryz.func6, Tryz.ntmps6
 go_wp2_with fail
 go_loopw [3] (fun iv wr => ∃ (k : Nat), k ≤ n ∧ iv = .int .i64 (k : Int) ∧ Hid (Below w.heap.size w wr) ∧ Hid (∀ j x, j < k → d[j]? = some x → x.u.2.1 + x.t.2.1 ≤ 6)) (fun iv _ => n - (intOf iv).toNat)
 case atStart => exact ⟨0, Nat.zero_le _, rfl, hide (Below.refl _ _), hide (fun j x h => by omega)⟩
 case round =>
  obtain ⟨k, hk, rfl, B, P⟩ := hrel
  by_cases hlt : k < n
  ·obtain ⟨x, hx⟩ := len_of (d := d) (k := k) (by rw [← HN.out]; exact hlt)
   have RX := hide ((HV.out.2 x (List.mem_of_getElem? hx)).step B.out)
   obtain ⟨b, off, rfl, hb, hc⟩ := (HV.out.1.step B.out).get hx
   have c0 := hc 0 _ rfl
   have c1 := hc 1 _ rfl
   have c2 := hc 2 _ rfl
   rw [Nat.add_zero] at c0
   have HX := hide hx
   have l0 : (0 : Int) ≤ (k : Int) := by omega
   have l1 : (k : Int) < (n : Int) := by omega
   clear hc hb hx
   go_wp2_with fail
   refine (words_x RX.out hL).mono ?_
   rintro e w2 ⟨rfl, bx⟩
   have B2 := hide (Below.step B.out B.out.size bx)
   obtain ⟨m, hm⟩ : ∃ m, m = x.u.2.1 + x.t.2.1 := ⟨_, rfl⟩
   rw [← hm]
   have HM := hide hm
   clear bx hm
   by_cases h6 : 6 < m
   ·have t1 : decide ((6 : Int) < (m : Int)) = true := decide_eq_true (by omega)
    go_wp2_with fail
    go_ret
    exact ⟨B2.out, true, rfl, fun h => by cases h⟩
   ·have t1 : decide ((6 : Int) < (m : Int)) = false := decide_eq_false (by omega)
    go_wp2_with fail
    exact ⟨⟨k + 1, by omega, by go_num, B2, hide (fun j y hj hy => by
     by_cases h : j = k
     ·subst h
      rw [HX.out] at hy
      injection hy with hy
      subst hy
      have := HM.out
      omega
     ·exact P.out j y (by omega) hy)⟩, by simp [intOf]; omega⟩
  ·obtain rfl : k = n := by omega
   have HP := hide (show ∀ x ∈ d, x.u.2.1 + x.t.2.1 ≤ 6 from fun x hx => by
    obtain ⟨j, hj, e⟩ := List.getElem_of_mem hx
    exact P.out j x (by rw [HN.out]; exact hj) (by rw [List.getElem?_eq_getElem hj, e]))
   by_cases h30 : 30 < k
   ·have t1 : decide ((30 : Int) < (k : Int)) = true := decide_eq_true (by omega)
    go_wp2_with fail
    go_ret
    exact ⟨B.out, true, rfl, fun h => by cases h⟩
   ·have t1 : decide ((30 : Int) < (k : Int)) = false := decide_eq_false (by omega)
    have WW := hide (weight_c (HV.out.step B.out) hL)
    go_wp2_with fail
    refine WW.out.mono ?_
    rintro e w2 ⟨z, rfl, bx⟩
    have B2 := hide (Below.step B.out B.out.size bx)
    clear bx
    go_wp2_with fail
    go_ret
    exact ⟨B2.out, _, rfl, fun _ => ⟨by omega, HP.out⟩⟩
end Go.Proofs.YtehdkdoaamlkdaaGreat
