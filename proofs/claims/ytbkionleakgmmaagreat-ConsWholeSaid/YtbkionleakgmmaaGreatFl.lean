
/-
  Lists of fractions by their words: copied, compared; whether one is greater than is looked at.
-/
import Derived.Test.YtbkionleakgmmaaGreatVref5
import Derived.Test.YtbkionleakgmmaaGreatVecLinW


namespace Go.Proofs.YtbkionleakgmmaaGreat
open Go.RowKit Go.Proofs.YtbkionleakgmmaaGreat.Num
set_option linter.unusedVariables false
set_option linter.unusedSimpArgs false
set_option maxRecDepth 100000

/-- The slice value reads as fractions of just these words. -/
def Fl (W : World) (v : Value) (d : List Rx) (zs : List Zt) (L : Nat) : Prop := Lr er 3 W v d ∧ d.length = zs.length ∧ ∀ (i : Nat) x z, d[i]? = some x → zs[i]? = some z → Zf W x z L
theorem Fl.step {W W' : World} {v : Value} {d : List Rx} {zs : List Zt} {L : Nat} (h : Fl W v d zs L) (hb : Below W.heap.size W W') : Fl W' v d zs L :=
  ⟨h.1.step hb, h.2.1, fun i x z hx hz => (h.2.2 i x z hx hz).step hb⟩
theorem Fl.xf {W W' : World} {v v' : Value} {d f : List Rx} {zs : List Zt} {L M : Nat} (h : Fl W v d zs L) (k : Fl W' v' f zs M) : xf d = xf f := by
  funext i
  unfold Go.Proofs.YtbkionleakgmmaaGreat.xf
  by_cases h0 : 0 ≤ i
  · rw [if_pos h0, if_pos h0]
    by_cases hi : i.toNat < d.length
    · obtain ⟨x, hx⟩ := len_of hi
      obtain ⟨z, hz⟩ := zs_at h.2.1 hx
      obtain ⟨y, hy⟩ := len_of (d := f) (k := i.toNat) (by have := h.2.1; have := k.2.1; omega)
      rw [hx, hy]
      exact (h.2.2 _ x z hx hz).2.1.trans (k.2.2 _ y z hy hz).2.1.symm
    · rw [List.getElem?_eq_none (by omega), List.getElem?_eq_none (by have := h.2.1; have := k.2.1; omega)]
  · rw [if_neg h0, if_neg h0]
theorem Fv.tight {W : World} {v : Value} {d : List Rx} {L : Nat} (h : Fv W v d L) (hs : ∀ x ∈ d, x.u.2.1 + x.t.2.1 ≤ 6) : Fv W v d 6 :=
  ⟨h.1, fun x hx => (h.2 x hx).tight (by have := hs x hx; omega) (by have := hs x hx; omega)⟩
/-- In memory of the call's own. -/
def Fo (W : World) (B : Nat) (v : Value) (d : List Rx) (zs : List Zt) (L : Nat) : Prop := Ow 42 er 3 W B v d ∧ d.length = zs.length ∧ ∀ (i : Nat) x z, d[i]? = some x → zs[i]? = some z → Zg W B x z L
theorem Fo.step {W W' : World} {B : Nat} {v : Value} {d : List Rx} {zs : List Zt} {L : Nat} (h : Fo W B v d zs L) (hb : Below W.heap.size W W') : Fo W' B v d zs L :=
  ⟨h.1.step hb, h.2.1, fun i x z hx hz => (h.2.2 i x z hx hz).step hb⟩
theorem Fo.fl {W : World} {B : Nat} {v : Value} {d : List Rx} {zs : List Zt} {L : Nat} (h : Fo W B v d zs L) : Fl W v d zs L :=
  ⟨h.1.rl er_len, h.2.1, fun i x z hx hz => (h.2.2 i x z hx hz).1⟩
theorem Fo.push {W W' : World} {B L : Nat} {v v' : Value} {d : List Rx} {zs : List Zt} {x : Rx} {z : Zt} (T : Fo W B v d zs L) (ho : Ow 42 er 3 W' B v' (d ++ [x])) (hg : W.grownBy W' v.ownBlock) (hx : Zg W B x z L) : Fo W' B v' (d ++ [x]) (zs ++ [z]) L := by
  refine ⟨ho, by simp [T.2.1], fun i y u hy hu => ?_⟩
  by_cases hi : i < d.length
  · rw [List.getElem?_append_left hi] at hy
    rw [List.getElem?_append_left (by have := T.2.1; omega)] at hu
    exact (T.2.2 i y u hy hu).grownT hg (fun g e => T.1.ot3 g e)
  · rw [List.getElem?_append_right (by omega)] at hy
    rw [List.getElem?_append_right (by have := T.2.1; omega), ← T.2.1] at hu
    have hj : i - d.length = 0 := by
      have := (List.getElem?_eq_some_iff.1 hy).1
      simp at this
      omega
    rw [hj] at hy hu
    simp at hy hu
    subst hy hu
    exact hx.grownT hg (fun g e => T.1.ot3 g e)

/-- A fraction's cells in a list, at an address. -/
def E3 (W : World) (A : Option Addr) (j : Nat) (x : Rx) : Prop := ∃ b off, A = some ⟨b, off, none⟩ ∧ W.cell? ⟨b, off + j, none⟩ = some (.bool x.s) ∧ W.cell? ⟨b, off + j + 1, none⟩ = some (sv x.u) ∧ W.cell? ⟨b, off + j + 2, none⟩ = some (sv x.t)
theorem E3.of {W : World} {A : Option Addr} {n c k : Nat} {d : List Rx} {x : Rx} (h : Lr er 3 W (.slice A n c) d) (hx : d[k]? = some x) : E3 W A (k * 3) x := by
  obtain ⟨b, off, rfl, hb, hc⟩ := h.get hx
  exact ⟨b, off, rfl, by have := hc 0 _ rfl; rwa [Nat.add_zero] at this, hc 1 _ rfl, hc 2 _ rfl⟩
theorem E3.cells {W : World} {b off j : Nat} {x : Rx} (h : E3 W (some ⟨b, off, none⟩) j x) : W.cell? ⟨b, off + j, none⟩ = some (.bool x.s) ∧ W.cell? ⟨b, off + j + 1, none⟩ = some (sv x.u) ∧ W.cell? ⟨b, off + j + 2, none⟩ = some (sv x.t) := by
  obtain ⟨b', off', e, h⟩ := h
  injection e with e
  injection e with e1 e2
  subst e1 e2
  exact h

/-- Fractions in their one form. -/
def Fc (W : World) (v : Value) (d : List Rx) (L : Nat) : Prop := Lr er 3 W v d ∧ ∀ x ∈ d, Rc W (rx x) x.r L
theorem Fc.step {W W' : World} {v : Value} {d : List Rx} {L : Nat} (h : Fc W v d L) (hb : Below W.heap.size W W') : Fc W' v d L := ⟨h.1.step hb, fun x hx => (h.2 x hx).step hb⟩
set_option maxHeartbeats 4000000 in
theorem greatall_c {w : World} {v : Value} {d : List Rx} {L : Nat} (hv : Fv w v d L) (hL : L ≤ 17592186044000) :
    Calls Tryz.prog 16 #[v] w fun e w' => Below w.heap.size w w' ∧ ∃ b : Bool, e = .returned (.bool b) ∧ (b = false → d.length ≤ 30 ∧ ∀ x ∈ d, x.u.2.1 + x.t.2.1 ≤ 6) := by
  obtain ⟨A, c, e1, hc1, hc2, hc3⟩ := id hv.1
  obtain ⟨n, hlen⟩ : ∃ n, n = d.length := ⟨_, rfl⟩
  rw [← hlen] at e1 hc1 ⊢
  subst e1
  have HV := hide hv
  have HN := hide hlen
  unfold maxLen at hc2
  clear hv hc3 hlen
  go_enter Tryz.func16, Tryz.ntmps16
  go_wp2_with fail
  go_loopw [3] (fun iv wr => ∃ (k : Nat), k ≤ n ∧ iv = .int .i64 (k : Int) ∧ Hid (Below w.heap.size w wr) ∧ Hid (∀ j x, j < k → d[j]? = some x → x.u.2.1 + x.t.2.1 ≤ 6)) (fun iv _ => n - (intOf iv).toNat)
  case atStart => exact ⟨0, Nat.zero_le _, rfl, hide (Below.refl _ _), hide (fun j x h => by omega)⟩
  case round =>
    obtain ⟨k, hk, rfl, B, P⟩ := hrel
    by_cases hlt : k < n
    · obtain ⟨x, hx⟩ := len_of (d := d) (k := k) (by rw [← HN.out]; exact hlt)
      have RX := hide ((HV.out.2 x (List.mem_of_getElem? hx)).step B.out)
      obtain ⟨b, off, rfl, hb, hc⟩ := (HV.out.1.step B.out).get hx
      have c0 := hc 0 _ rfl
      have c1 := hc 1 _ rfl
      have c2 := hc 2 _ rfl
      rw [Nat.add_zero] at c0
      have HX := hide hx
      have l0 : (0 : Int) ≤ (k : Int) := by omega
      have l1 : (k : Int) < (n : Int) := by omega
      clear hc hb hx
      go_wp2_with fail
      refine (words_x RX.out hL).mono ?_
      rintro e w2 ⟨rfl, bx⟩
      have B2 := hide (Below.step B.out B.out.size bx)
      obtain ⟨m, hm⟩ : ∃ m, m = x.u.2.1 + x.t.2.1 := ⟨_, rfl⟩
      rw [← hm]
      have HM := hide hm
      clear bx hm
      by_cases h6 : 6 < m
      · have t1 : decide ((6 : Int) < (m : Int)) = true := decide_eq_true (by omega)
        go_wp2_with fail
        go_ret
        exact ⟨B2.out, true, rfl, fun h => by cases h⟩
      · have t1 : decide ((6 : Int) < (m : Int)) = false := decide_eq_false (by omega)
        go_wp2_with fail
        exact ⟨⟨k + 1, by omega, by go_num, B2, hide (fun j y hj hy => by
          by_cases h : j = k
          · subst h
            rw [HX.out] at hy
            injection hy with hy
            subst hy
            have := HM.out
            omega
          · exact P.out j y (by omega) hy)⟩, by simp [intOf]; omega⟩
    · obtain rfl : k = n := by omega
      have HP := hide (show ∀ x ∈ d, x.u.2.1 + x.t.2.1 ≤ 6 from fun x hx => by
        obtain ⟨j, hj, e⟩ := List.getElem_of_mem hx
        exact P.out j x (by rw [HN.out]; exact hj) (by rw [List.getElem?_eq_getElem hj, e]))
      by_cases h30 : 30 < k
      · have t1 : decide ((30 : Int) < (k : Int)) = true := decide_eq_true (by omega)
        go_wp2_with fail
        go_ret
        exact ⟨B.out, true, rfl, fun h => by cases h⟩
      · have t1 : decide ((30 : Int) < (k : Int)) = false := decide_eq_false (by omega)
        have WW := hide (weight_c (HV.out.step B.out) hL)
        go_wp2_with fail
        refine WW.out.mono ?_
        rintro e w2 ⟨z, rfl, bx⟩
        have B2 := hide (Below.step B.out B.out.size bx)
        clear bx
        go_wp2_with fail
        go_ret
        exact ⟨B2.out, _, rfl, fun _ => ⟨by omega, HP.out⟩⟩
end Go.Proofs.YtbkionleakgmmaaGreat
