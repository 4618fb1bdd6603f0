/-
  Whether a vector is greater than is looked at.
-/
import Derived.Test.YtieicmcbdhaipaaGreatVec2
import Derived.Test.YtieicmcbdhaipaaGreatRatQ5


namespace Go.Proofs.YtieicmcbdhaipaaGreat
open Go.RowKit Go.Proofs.YtieicmcbdhaipaaGreat.Num
set_option linter.unusedVariables false
set_option linter.unusedSimpArgs false
set_option maxRecDepth 100000

theorem light_c {w : World} {A : Option Addr} {n c x L : Nat} (h : Nw w (.slice A n c) x L) (hn : n ≤ 1000000000000000000) :
    Calls Tryz.prog 175 #[.slice A n c] w fun e w' => ∃ b : Bool, e = .returned (.bool b) ∧ Below w.heap.size w w' := by
  by_cases h0 : n = 0
  · subst h0
    have t0 : ((((0 : Nat) : Int)) == 0) = true := rfl
    go_enter Tryz.func175, Tryz.ntmps175
    go_wp2_with fail
    go_ret
    exact ⟨_, rfl, Below.refl _ _⟩
  · have t0 : ((n : Int) == 0) = false := beq_eq_false_iff_ne.2 (by omega)
    by_cases h1 : n = 1
    · subst h1
      have t1 : ((((1 : Nat) : Int)) == 1) = true := rfl
      obtain ⟨A', n', c', xs, e, hr, h2⟩ := h
      cases e
      obtain ⟨b, off, rfl, hb, hc⟩ := hr.at_ (show 0 < 1 by omega)
      rw [Nat.add_zero] at hc
      clear hr h2
      go_enter Tryz.func175, Tryz.ntmps175
      go_wp2_with fail
      go_ret
      exact ⟨_, rfl, Below.refl _ _⟩
    · have t1 : ((n : Int) == 1) = false := beq_eq_false_iff_ne.2 (by omega)
      clear h
      go_enter Tryz.func175, Tryz.ntmps175
      go_wp2_with fail
      go_ret
      exact ⟨_, rfl, Below.refl _ _⟩

theorem Ra.words {W : World} {x : Rx} {r : Rat} {L : Nat} (h : Ra W (rx x) r L) : (∃ a, Nw W (sv x.u) a L) ∧ (∃ b, Nw W (sv x.t) b L) ∧ x.u.2.1 ≤ L ∧ x.t.2.1 ≤ L := by
  obtain ⟨s, u, t, a, b, e, h1, h2, h3⟩ := h
  injection e with e
  have e3 := congrArg Array.toList e
  simp at e3
  obtain ⟨e4, rfl, rfl⟩ := e3
  refine ⟨⟨a, h1⟩, ⟨b, h2⟩, ?_, ?_⟩
  · obtain ⟨A, n, c, xs, e, g1, g2, g3, g4, g5, g6⟩ := h1
    injection e with e5 e6 e7
    omega
  · obtain ⟨A, n, c, xs, e, g1, g2, g3, g4, g5, g6⟩ := h2
    injection e with e5 e6 e7
    omega
theorem Ra.tight {W : World} {x : Rx} {r : Rat} {L M : Nat} (h : Ra W (rx x) r L) (hu : x.u.2.1 ≤ M) (ht : x.t.2.1 ≤ M) : Ra W (rx x) r M := by
  obtain ⟨s, u, t, a, b, e, h1, h2, h3⟩ := h
  injection e with e
  have e3 := congrArg Array.toList e
  simp at e3
  obtain ⟨e4, rfl, rfl⟩ := e3
  subst e4
  refine ⟨_, _, _, a, b, rfl, ?_, ?_, h3⟩
  · obtain ⟨A, n, c, xs, e, g1, g2, g3, g4, g5, g6⟩ := h1
    injection e with e5 e6 e7
    exact ⟨A, n, c, xs, by rw [← e5, ← e6, ← e7], g1, g2, g3, g4, g5, by omega⟩
  · obtain ⟨A, n, c, xs, e, g1, g2, g3, g4, g5, g6⟩ := h2
    injection e with e5 e6 e7
    exact ⟨A, n, c, xs, by rw [← e5, ← e6, ← e7], g1, g2, g3, g4, g5, by omega⟩
theorem words_x {W : World} {x : Rx} {r : Rat} {L : Nat} (h : Ra W (rx x) r L) (hL : L ≤ 17592186044000) :
    Calls Tryz.prog 47 #[rx x] W fun e w' => e = .returned (.int .i64 ((x.u.2.1 + x.t.2.1 : Nat) : Int)) ∧ Below W.heap.size W w' :=
  rwords_any (by have := h.words.2.2.1; omega) (by have := h.words.2.2.2; omega)

set_option maxHeartbeats 4000000 in
theorem weight_c {w : World} {v : Value} {d : List Rx} {L : Nat} (hv : Fv w v d L) (hL : L ≤ 17592186044000) :
    Calls Tryz.prog 122 #[v] w fun e w' => ∃ z : Int, e = .returned (.int .i64 z) ∧ Below w.heap.size w w' := by
  obtain ⟨A, c, e1, hc1, hc2, hc3⟩ := id hv.1
  obtain ⟨n, hlen⟩ : ∃ n, n = d.length := ⟨_, rfl⟩
  rw [← hlen] at e1 hc1
  subst e1
  have HV := hide hv
  have HN := hide hlen
  unfold maxLen at hc2
  clear hv hc3 hlen
  go_enter Tryz.func122, Tryz.ntmps122
  go_wp2_with fail
  go_loopw [3, 4] (fun zv iv wr => ∃ (k : Nat) (z : Int), k ≤ n ∧ iv = .int .i64 (k : Int) ∧ zv = .int .i64 z ∧ Hid (Below w.heap.size w wr)) (fun _ iv _ => n - (intOf iv).toNat)
  case atStart => exact ⟨0, 0, Nat.zero_le _, rfl, rfl, hide (Below.refl _ _)⟩
  case round =>
    obtain ⟨k, z, hk, rfl, rfl, B⟩ := hrel
    by_cases hlt : k < n
    · obtain ⟨x, hx⟩ := len_of (d := d) (k := k) (by rw [← HN.out]; exact hlt)
      have RX := hide ((HV.out.2 x (List.mem_of_getElem? hx)).step B.out)
      have F := hide (HV.out.step B.out)
      obtain ⟨b, off, rfl, hb, hc⟩ := F.out.1.get hx
      have HX := hide hx
      obtain ⟨⟨a, wa⟩, ⟨b', wb⟩, wl1, wl2⟩ := RX.out.words
      have c0 := hc 0 _ rfl
      have c1 := hc 1 _ rfl
      have c2 := hc 2 _ rfl
      rw [Nat.add_zero] at c0
      have WA := hide (light_c wa (by omega))
      have WB := hide wb
      have l0 : (0 : Int) ≤ (k : Int) := by omega
      have l1 : (k : Int) < (n : Int) := by omega
      clear hc hb hx wa wb
      go_wp2_with fail
      refine WA.out.mono ?_
      rintro e w1 ⟨p, rfl, bx⟩
      have B1 := hide (Below.step B.out B.out.size bx)
      obtain ⟨b2, off2, e2, hb2, hc2'⟩ := (F.out.1.step bx).get HX.out
      injection e2 with e2
      injection e2 with e3 e4
      subst e3 e4
      have c0 := hc2' 0 _ rfl
      have c1 := hc2' 1 _ rfl
      have c2 := hc2' 2 _ rfl
      rw [Nat.add_zero] at c0
      have WB1 := hide (light_c (WB.out.step bx) (by omega))
      have RX1 := hide (RX.out.step bx)
      have F1 := hide (F.out.step bx)
      clear bx hb2 hc2' B F RX WA WB
      cases p with
      | false =>
        go_wp2_with fail
        refine (words_x RX1.out (by omega)).mono ?_
        rintro e w2 ⟨rfl, bx⟩
        have B2 := hide (Below.step B1.out B1.out.size bx)
        clear bx
        go_wp2_with fail
        exact ⟨⟨k + 1, _, by omega, by go_num, rfl, B2⟩, by simp [intOf]; omega⟩
      | true =>
        go_wp2_with fail
        refine WB1.out.mono ?_
        rintro e w2 ⟨q, rfl, bx⟩
        have B2 := hide (Below.step B1.out B1.out.size bx)
        obtain ⟨b2, off2, e2, hb2, hc2'⟩ := (F1.out.1.step bx).get HX.out
        injection e2 with e2
        injection e2 with e3 e4
        subst e3 e4
        have c0 := hc2' 0 _ rfl
        have c1 := hc2' 1 _ rfl
        have c2 := hc2' 2 _ rfl
        rw [Nat.add_zero] at c0
        have RX2 := hide (RX1.out.step bx)
        clear bx hb2 hc2' F1 RX1 WB1 B1
        cases q with
        | false =>
          go_wp2_with fail
          refine (words_x RX2.out (by omega)).mono ?_
          rintro e w2 ⟨rfl, bx⟩
          have B3 := hide (Below.step B2.out B2.out.size bx)
          clear bx
          go_wp2_with fail
          exact ⟨⟨k + 1, _, by omega, by go_num, rfl, B3⟩, by simp [intOf]; omega⟩
        | true =>
          go_wp2_with fail
          exact ⟨⟨k + 1, z, by omega, by go_num, rfl, B2⟩, by simp [intOf]; omega⟩
    · obtain rfl : k = n := by omega
      go_wp2_with fail
      go_ret
      exact ⟨z, rfl, B.out⟩

/-- A list of fractions that came in, in a list of the call's own. -/
theorem Fv.of {W : World} {B : Nat} {v : Value} {d : List Rx} {L : Nat} (h : Ow 26 er 3 W B v d) (hd : ∀ x ∈ d, Ra W (rx x) x.r L) : Fv W v d L := ⟨h.rl er_len, hd⟩

set_option maxHeartbeats 4000000 in
theorem weights_c {w : World} {v : Value} {d : List Tx} {L : Nat} (hv : Tv w v d L) (hL : L ≤ 17592186044000) (hn : d.length ≤ 100000000) :
    Calls Tryz.prog 116 #[v] w fun e w' => ∃ z : Int, e = .returned (.int .i64 z) ∧ Below w.heap.size w w' := by
  obtain ⟨A, c, e1, hc1, hc2, hc3⟩ := id hv.1
  obtain ⟨n, hlen⟩ : ∃ n, n = d.length := ⟨_, rfl⟩
  rw [← hlen] at e1 hc1 hn
  subst e1
  have HV := hide hv
  have HN := hide hlen
  obtain ⟨i0, hi, hz0, hz1, hz2⟩ := info_parts info_rt
  clear hv hc3 hlen
  go_enter Tryz.func116, Tryz.ntmps116
  go_wp2_with fail
  go_loopw [3, 4] (fun ov iv wr => ∃ (k : Nat), k ≤ n ∧ iv = .int .i64 (k : Int) ∧ Hid (Below w.heap.size w wr) ∧ Hid (Ow 26 er 3 wr w.heap.size ov ((d.take k).map (·.x)))) (fun _ iv _ => n - (intOf iv).toNat)
  case atStart => exact ⟨0, Nat.zero_le _, rfl, hide (Below.refl _ _), hide (Ow.nil _ _ _ _ _)⟩
  case round =>
    obtain ⟨k, hk, rfl, B, O⟩ := hrel
    by_cases hlt : k < n
    · obtain ⟨x, hx⟩ := len_of (d := d) (k := k) (by rw [← HN.out]; exact hlt)
      obtain ⟨b, off, rfl, hb, hc⟩ := (HV.out.1.step B.out).get hx
      have c0 := hc 0 _ rfl
      have c1 := hc 1 _ rfl
      have c2 := hc 2 _ rfl
      have c3 := hc 3 _ rfl
      rw [Nat.add_zero] at c0
      have l0 : (0 : Int) ≤ (k : Int) := by omega
      have l1 : (k : Int) < (n : Int) := by omega
      have e9 := hide (show (d.take k).map (·.x) ++ [x.x] = (d.take (k + 1)).map (·.x) by
        rw [List.take_succ_eq_append_getElem (List.getElem?_eq_some_iff.1 hx).1, List.map_append, (List.getElem?_eq_some_iff.1 hx).2]; rfl)
      have HLL := hide (show ((d.take k).map (·.x)).length + 1 ≤ 1000000000000 by simp; omega)
      have FW := hide (fun u v' w' (hu : Ow 26 er 3 wr w.heap.size u ((d.take k).map (·.x))) (ho : Ow 26 er 3 w' w.heap.size v' ((d.take k).map (·.x) ++ [x.x])) (hg : wr.grownBy w' u.ownBlock) => And.intro (show Ow 26 er 3 w' w.heap.size v' ((d.take (k + 1)).map (·.x)) by rw [← e9.out]; exact ho) (below_own B.out hu hg B.out.size))
      clear hc hb hx
      go_wp2_with (at_builtin; go_must (refine wpList_pushE rfl (.tmp 11) (.tmp 17) 37 rfl Tryz.underlying37 hi hz0 hz1 hz2 rfl (by omega) er_len er_one wr w.heap.size _ ((d.take k).map (·.x)) x.x _ rfl O.out rfl rfl HLL.out (by decide) B.out.size ?_); intro v' w' ho hg; have F2 := hide (FW.out _ v' w' O.out ho hg.1); clear ho hg)
      exact ⟨⟨k + 1, by omega, by go_num, hide F2.out.2, hide F2.out.1⟩, by simp [intOf]; omega⟩
    · obtain rfl : k = n := by omega
      have hm : (d.take k).map (·.x) = d.map (·.x) := by rw [List.take_of_length_le (by rw [← HN.out]; exact Nat.le_refl _)]
      have FV := hide (show Fv wr u3 (d.map (·.x)) L from Fv.of (B := w.heap.size) (by rw [← hm]; exact O.out) (fun x hx => by
        obtain ⟨y, hy, rfl⟩ := List.mem_map.1 hx
        exact (HV.out.2 y hy).step B.out))
      obtain ⟨A2, n2, c2, rfl⟩ : ∃ A n c, u3 = .slice A n c := by
        rcases O.out.form with ⟨rfl, _⟩ | ⟨g, cap, cur, rfl, _⟩
        · exact ⟨_, _, _, rfl⟩
        · exact ⟨_, _, _, rfl⟩
      clear O
      go_wp2_with fail
      refine (weight_c FV.out hL).mono ?_
      rintro e w2 ⟨z, rfl, bx⟩
      have B2 := hide (Below.step B.out B.out.size bx)
      clear bx
      go_wp2_with fail
      go_ret
      exact ⟨z, rfl, B2.out⟩

set_option maxHeartbeats 4000000 in
theorem great_c {w : World} {v : Value} {d : List Tx} {L : Nat} (hv : Tv w v d L) (hL : L ≤ 17592186044000) :
    Calls Tryz.prog 39 #[v] w fun e w' => Below w.heap.size w w' ∧ ∃ b : Bool, e = .returned (.bool b) ∧ (b = false → d.length ≤ 30 ∧ ∀ x ∈ d, x.x.u.2.1 + x.x.t.2.1 ≤ 6) := by
  obtain ⟨A, c, e1, hc1, hc2, hc3⟩ := id hv.1
  obtain ⟨n, hlen⟩ : ∃ n, n = d.length := ⟨_, rfl⟩
  rw [← hlen] at e1 hc1 ⊢
  subst e1
  have HV := hide hv
  have HN := hide hlen
  unfold maxLen at hc2
  clear hv hc3 hlen
  go_enter Tryz.func39, Tryz.ntmps39
  go_wp2_with fail
  go_loopw [3] (fun iv wr => ∃ (k : Nat), k ≤ n ∧ iv = .int .i64 (k : Int) ∧ Hid (Below w.heap.size w wr) ∧ Hid (∀ j x, j < k → d[j]? = some x → x.x.u.2.1 + x.x.t.2.1 ≤ 6)) (fun iv _ => n - (intOf iv).toNat)
  case atStart => exact ⟨0, Nat.zero_le _, rfl, hide (Below.refl _ _), hide (fun j x h => by omega)⟩
  case round =>
    obtain ⟨k, hk, rfl, B, P⟩ := hrel
    by_cases hlt : k < n
    · obtain ⟨x, hx⟩ := len_of (d := d) (k := k) (by rw [← HN.out]; exact hlt)
      have RX := hide ((HV.out.2 x (List.mem_of_getElem? hx)).step B.out)
      obtain ⟨b, off, rfl, hb, hc⟩ := (HV.out.1.step B.out).get hx
      have c0 := hc 0 _ rfl
      have c1 := hc 1 _ rfl
      have c2 := hc 2 _ rfl
      have c3 := hc 3 _ rfl
      rw [Nat.add_zero] at c0
      have HX := hide hx
      have l0 : (0 : Int) ≤ (k : Int) := by omega
      have l1 : (k : Int) < (n : Int) := by omega
      clear hc hb hx
      go_wp2_with fail
      refine (words_x RX.out hL).mono ?_
      rintro e w2 ⟨rfl, bx⟩
      have B2 := hide (Below.step B.out B.out.size bx)
      obtain ⟨m, hm⟩ : ∃ m, m = x.x.u.2.1 + x.x.t.2.1 := ⟨_, rfl⟩
      rw [← hm]
      have HM := hide hm
      clear bx hm
      by_cases h6 : 6 < m
      · have t1 : decide ((6 : Int) < (m : Int)) = true := decide_eq_true (by omega)
        go_wp2_with fail
        go_ret
        exact ⟨B2.out, true, rfl, fun h => by cases h⟩
      · have t1 : decide ((6 : Int) < (m : Int)) = false := decide_eq_false (by omega)
        go_wp2_with fail
        exact ⟨⟨k + 1, by omega, by go_num, B2, hide (fun j y hj hy => by
          by_cases h : j = k
          · subst h
            rw [HX.out] at hy
            injection hy with hy
            subst hy
            have := HM.out
            omega
          · exact P.out j y (by omega) hy)⟩, by simp [intOf]; omega⟩
    · obtain rfl : k = n := by omega
      have HP := hide (show ∀ x ∈ d, x.x.u.2.1 + x.x.t.2.1 ≤ 6 from fun x hx => by
        obtain ⟨j, hj, e⟩ := List.getElem_of_mem hx
        exact P.out j x (by rw [HN.out]; exact hj) (by rw [List.getElem?_eq_getElem hj, e]))
      by_cases h30 : 30 < k
      · have t1 : decide ((30 : Int) < (k : Int)) = true := decide_eq_true (by omega)
        go_wp2_with fail
        go_ret
        exact ⟨B.out, true, rfl, fun h => by cases h⟩
      · have t1 : decide ((30 : Int) < (k : Int)) = false := decide_eq_false (by omega)
        have WW := hide (weights_c (HV.out.step B.out) hL (by rw [← HN.out]; omega))
        go_wp2_with fail
        refine WW.out.mono ?_
        rintro e w2 ⟨z, rfl, bx⟩
        have B2 := hide (Below.step B.out B.out.size bx)
        clear bx
        go_wp2_with fail
        go_ret
        exact ⟨B2.out, _, rfl, fun _ => ⟨by omega, HP.out⟩⟩
theorem Tv.tight {W : World} {v : Value} {d : List Tx} {L : Nat} (h : Tv W v d L) (hs : ∀ x ∈ d, x.x.u.2.1 + x.x.t.2.1 ≤ 6) : Tv W v d 6 :=
  ⟨h.1, fun x hx => (h.2 x hx).tight (by have := hs x hx; omega) (by have := hs x hx; omega)⟩
end Go.Proofs.YtieicmcbdhaipaaGreat
