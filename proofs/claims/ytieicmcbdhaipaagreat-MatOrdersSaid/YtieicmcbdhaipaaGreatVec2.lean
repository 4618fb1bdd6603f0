/-
  Lists of terms: searched, copied; the orders of their places.
-/
import Derived.Test.YtieicmcbdhaipaaGreatVec1
import Derived.Test.YtieicmcbdhaipaaGreatElSort
import Derived.Test.YtieicmcbdhaipaaGreatSortLay
import Derived.BigGuardPart


namespace Go.Proofs.YtieicmcbdhaipaaGreat
open Go.RowKit Go.Proofs.YtieicmcbdhaipaaGreat.Num
set_option linter.unusedVariables false
set_option linter.unusedSimpArgs false
set_option maxRecDepth 100000

theorem isnan_i (x : Int) (w : World) : Calls Tryz.prog 196 #[.int .i64 x] w fun e w' => e = .returned (.bool false) ∧ w' = w := by
  have t : (x != x) = false := by simp
  go_enter Tryz.func196, Tryz.ntmps196
  go_wp2_with fail
  go_ret
  exact ⟨rfl, rfl⟩
theorem compare_i (x y : Int) (w : World) : Calls Tryz.prog 172 #[.int .i64 x, .int .i64 y] w fun e w' => e = .returned (.int .i64 (Go.Lib.compareInt x y)) ∧ w' = w := by
  have t1 : (decide (x < y) = true ∧ Go.Lib.compareInt x y = -1) ∨ (decide (x < y) = false ∧ ((decide (y < x) = true ∧ Go.Lib.compareInt x y = 1) ∨ (decide (y < x) = false ∧ Go.Lib.compareInt x y = 0))) := by
    unfold Go.Lib.compareInt
    by_cases h1 : x < y
    · exact .inl ⟨decide_eq_true h1, if_pos h1⟩
    · by_cases h2 : y < x
      · exact .inr ⟨decide_eq_false h1, .inl ⟨decide_eq_true h2, by rw [if_neg h1, if_pos h2]⟩⟩
      · exact .inr ⟨decide_eq_false h1, .inr ⟨decide_eq_false h2, by rw [if_neg h1, if_neg h2]⟩⟩
  generalize Go.Lib.compareInt x y = r at *
  go_enter Tryz.func172, Tryz.ntmps172
  go_wp2_with fail
  refine (isnan_i x w).mono ?_
  rintro e _ ⟨rfl, rfl⟩
  go_wp2_with fail
  refine (isnan_i y _).mono ?_
  rintro e _ ⟨rfl, rfl⟩
  rcases t1 with ⟨t1, rfl⟩ | ⟨t1, ⟨t2, rfl⟩ | ⟨t2, rfl⟩⟩
  · go_wp2_with fail
    go_ret
    exact ⟨rfl, rfl⟩
  · go_wp2_with fail
    go_ret
    exact ⟨rfl, rfl⟩
  · go_wp2_with fail
    go_ret
    exact ⟨rfl, rfl⟩

/-! ### The three function values -/
theorem low_c (x : Tx) (w : World) : Calls Tryz.prog 169 #[.agg (et x).toArray] w fun e w' => e = .returned (.bool (decide (x.c < 0))) ∧ Below w.heap.size w w' := by
  show Calls Tryz.prog 169 #[.agg #[.int .i64 x.c, .bool x.x.s, sv x.x.u, sv x.x.t]] w _
  have b8 := hide ((Below.refl w.heap.size w).alloc (Nat.le_refl _) (.cells #[.int .i64 x.c, .bool x.x.s, sv x.x.u, sv x.x.t] 63))
  obtain ⟨r, hr⟩ : ∃ r, decide (x.c < 0) = r := ⟨_, rfl⟩
  rw [hr]
  go_enter Tryz.func169, Tryz.ntmps169
  go_wp2_with fail
  go_ret
  exact ⟨rfl, b8.out⟩
theorem ord_c (x y : Tx) (w : World) : Calls Tryz.prog 171 #[.agg (et x).toArray, .agg (et y).toArray] w fun e w' => e = .returned (.int .i64 (Go.Lib.compareInt x.c y.c)) ∧ ∃ q os', w' = Go.Sort.grow (w.drewN q) os' := by
  show Calls Tryz.prog 171 #[.agg #[.int .i64 x.c, .bool x.x.s, sv x.x.u, sv x.x.t], .agg #[.int .i64 y.c, .bool y.x.s, sv y.x.u, sv y.x.t]] w _
  have hcon := fun W => compare_i x.c y.c W
  generalize Go.Lib.compareInt x.c y.c = r at hcon ⊢
  go_enter Tryz.func171, Tryz.ntmps171
  go_wp2_with fail
  refine (hcon _).mono ?_
  rintro e _ ⟨rfl, rfl⟩
  go_wp2_with fail
  go_ret
  exact ⟨rfl, 0, _, by rw [Go.Sort.alloc_eq_grow, Go.Sort.alloc_eq_grow, Go.Sort.grow_grow]; rfl⟩
theorem nil_c {x : Tx} {L : Nat} {w : World} (h : Ra w (rx x.x) x.x.r L) (hL : L ≤ 1000000000000) : Calls Tryz.prog 119 #[.agg (et x).toArray] w fun e w' => e = .returned (.bool (decide (x.x.r = 0))) ∧ Below w.heap.size w w' := by
  show Calls Tryz.prog 119 #[.agg #[.int .i64 x.c, .bool x.x.s, sv x.x.u, sv x.x.t]] w _
  have b8 := (Below.refl w.heap.size w).alloc (Nat.le_refl _) (.cells #[.int .i64 x.c, .bool x.x.s, sv x.x.u, sv x.x.t] 63)
  have H := hide (h.step b8)
  have B := hide b8
  have t1 : (cmpR x.x.r 0 == 0) = decide (x.x.r = 0) := by
    unfold cmpR
    by_cases h0 : x.x.r = 0
    · rw [h0]; rfl
    · have : decide (x.x.r = 0) = false := decide_eq_false h0
      rw [this]
      by_cases h1 : x.x.r < 0
      · rw [if_pos h1]; rfl
      · by_cases h2 : 0 < x.x.r
        · rw [if_neg h1, if_pos h2]; rfl
        · exact absurd (Rat.le_antisymm (Rat.not_lt.1 h2) (Rat.not_lt.1 h1)) h0
  obtain ⟨r, hr⟩ : ∃ r, decide (x.x.r = 0) = r := ⟨_, rfl⟩
  rw [hr] at t1 ⊢
  clear h b8
  go_enter Tryz.func119, Tryz.ntmps119
  go_wp2_with fail
  refine (sign_r H.out (by omega)).mono ?_
  rintro e w1 ⟨rfl, bx⟩
  replace B := hide (Below.step B.out B.out.size bx)
  generalize cmpR x.x.r 0 = z at *
  clear bx
  go_wp2_with fail
  go_ret
  exact ⟨rfl, B.out⟩

/-! ### Searched -/
set_option maxHeartbeats 4000000 in
theorem index_f {g : FuncId} {w : World} {v : Value} {d : List Tx} (p : Tx → Bool) (eg : ∀ args w, (callFunc g args).run Tryz.prog w = .ok (.enter g args) w) (hv : Lr et 4 w v d)
    (hg : ∀ W, Below w.heap.size w W → ∀ x ∈ d, Calls Tryz.prog g #[.agg (et x).toArray] W fun e W' => e = .returned (.bool (p x)) ∧ Below W.heap.size W W') :
    Calls Tryz.prog 173 #[v, .func (.func g) #[] #[]] w fun e w' => Below w.heap.size w w' ∧
      ((∃ k, k < d.length ∧ e = .returned (.int .i64 (k : Int)) ∧ (∀ j x, j < k → d[j]? = some x → p x = false) ∧ ∀ x, d[k]? = some x → p x = true) ∨ (e = .returned (.int .i64 (-1)) ∧ ∀ x ∈ d, p x = false)) := by
  obtain ⟨A, c, rfl, hc1, hc2, hc3⟩ := id hv
  have HV := hide hv
  have HG := hide hg
  obtain ⟨n, hlen⟩ : ∃ n, n = d.length := ⟨_, rfl⟩
  rw [← hlen] at HV hc1 ⊢
  have HN := hide hlen
  unfold maxLen at hc2
  clear hv hg hc3 hlen
  go_enter Tryz.func173, Tryz.ntmps173
  go_wp2_with fail
  go_loopw [8] (fun iv wr => ∃ k : Nat, k ≤ n ∧ iv = .int .i64 (k : Int) ∧ Hid (Below w.heap.size w wr) ∧ Hid (∀ j x, j < k → d[j]? = some x → p x = false)) (fun iv _ => n - (intOf iv).toNat)
  case atStart => exact ⟨0, Nat.zero_le _, rfl, hide (Below.refl _ _), hide (fun j x h => by omega)⟩
  case round =>
    obtain ⟨k, hk, rfl, B, P⟩ := hrel
    by_cases hlt : k < n
    · obtain ⟨t, ht⟩ := len_of (d := d) (k := k) (by rw [← HN.out]; exact hlt)
      have HC := hide (HG.out wr B.out t (List.mem_of_getElem? ht))
      obtain ⟨b, off, rfl, hb, hc⟩ := (HV.out.step B.out).get ht
      have c0 := hc 0 _ rfl
      have c1 := hc 1 _ rfl
      have c2 := hc 2 _ rfl
      have c3 := hc 3 _ rfl
      rw [Nat.add_zero] at c0
      have l0 : (0 : Int) ≤ (k : Int) := by omega
      have l1 : (k : Int) < (n : Int) := by omega
      have HT := hide ht
      have hcall : Calls Tryz.prog g #[.agg #[.int .i64 t.c, .bool t.x.s, sv t.x.u, sv t.x.t]] wr fun e W' => e = .returned (.bool (p t)) ∧ Below wr.heap.size wr W' := HC.out
      have HC2 := hide hcall
      clear hc hb ht hcall HC
      cases hp : p t with
      | false =>
        rw [hp] at HC2
        go_wp2_with (go_at_fn g; refine HC2.out.mono ?_; rintro e w3 ⟨rfl, bx⟩)
        exact ⟨⟨k + 1, by omega, by go_num, hide (Below.step B.out B.out.size bx), hide (fun j x hj hx => by
          by_cases h : j = k
          · subst h
            rw [HT.out] at hx
            injection hx with hx
            subst hx
            exact hp
          · exact P.out j x (by omega) hx)⟩, by simp [intOf]; omega⟩
      | true =>
        rw [hp] at HC2
        go_wp2_with (go_at_fn g; refine HC2.out.mono ?_; rintro e w3 ⟨rfl, bx⟩)
        go_ret
        exact ⟨Below.step B.out B.out.size bx, .inl ⟨k, hlt, rfl, P.out, fun x hx => by
          rw [HT.out] at hx
          injection hx with hx
          subst hx
          exact hp⟩⟩
    · obtain rfl : k = n := by omega
      go_wp2_with fail
      go_ret
      exact ⟨B.out, .inr ⟨rfl, fun x hx => by
        obtain ⟨j, hj, e⟩ := List.getElem_of_mem hx
        exact P.out j x (by rw [HN.out]; exact hj) (by rw [List.getElem?_eq_getElem hj, e])⟩⟩

/-! ### Copied -/
theorem info_tm : (Tryz.prog.info? 63).map (fun i => (i.zero, i.size, i.bytes)) = some (some (.agg #[.int .i64 0, .bool false, .slice none 0 0, .slice none 0 0]), 4, 64) := by kernel_rfl
theorem info_rt : (Tryz.prog.info? 26).map (fun i => (i.zero, i.size, i.bytes)) = some (some (.agg #[.bool false, .slice none 0 0, .slice none 0 0]), 3, 56) := by kernel_rfl
theorem eql_some (ad : Addr) (n c : Nat) (w : World) : (binOp BinOp.eql 47 (.slice (some ad) n c) (.slice none 0 0)).run Tryz.prog w = .ok (.bool false) w := by rfl
theorem eql_none (n c : Nat) (w : World) : (binOp BinOp.eql 47 (.slice none n c) (.slice none 0 0)).run Tryz.prog w = .ok (.bool true) w := by rfl
set_option maxHeartbeats 2000000 in
theorem clone_t {w : World} {v : Value} {d : List Tx} (hv : Lr et 4 w v d) (hn : d.length ≤ 100000000) :
    Calls Tryz.prog 168 #[v] w fun e w' => ∃ v', e = .returned v' ∧ Ow 63 et 4 w' w.heap.size v' d ∧ Below w.heap.size w w' := by
  obtain ⟨A, c, rfl, hc1, hc2, hc3⟩ := id hv
  cases A with
  | none =>
    have h0 : d = [] := by
      rcases Nat.eq_zero_or_pos d.length with h | h
      · exact List.length_eq_zero_iff.1 h
      · obtain ⟨b, off, e, _⟩ := hc3 h
        cases e
    subst h0
    clear hv hc3
    have eq := eql_none 0 c w
    go_enter Tryz.func168, Tryz.ntmps168
    go_wp2_with fail
    go_ret
    exact ⟨_, rfl, Ow.nil _ _ _ _ _, Below.refl _ _⟩
  | some ad =>
    obtain ⟨i0, hi, hz0, hz1, hz2⟩ := info_parts info_tm
    have eq := eql_some ad d.length c w
    go_enter Tryz.func168, Tryz.ntmps168
    have X := hide ((hv.step ((Below.refl _ _).alloc (Nat.le_refl _) (.cells #[] 63))))
    have O := hide (Ow.lit (B := w.heap.size) et_len w 63 ([] : List Tx) #[] rfl (Nat.le_refl _) (by simp [maxLen]))
    have B := hide ((Below.refl w.heap.size w).alloc (Nat.le_refl _) (.cells #[] 63))
    clear hv hc3
    go_wp2_with (at_builtin; go_must (refine wpList_joinE rfl (.tmp 5) (.tmp 6) 47 rfl Tryz.underlying47 hi hz0 hz1 hz2 rfl (by omega) et_len et_one _ w.heap.size _ [] ad c d X.out O.out rfl rfl (by simp; omega) (by decide) B.out.size ?_); intro v' w' ho hg; have fin := And.intro ho (below_own B.out O.out hg.1 B.out.size); clear ho hg)
    go_ret
    exact ⟨_, rfl, fin.1, fin.2⟩
end Go.Proofs.YtieicmcbdhaipaaGreat
