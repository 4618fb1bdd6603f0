/-
  The walk of NatTexts: true.
-/
import Derived.Test.YtpeopcafafonkaaDoorDigits
import Derived.Test.YtpeopcafafonkaaDoorRefK
import Derived.SizedLaws
namespace Go.Proofs.YtpeopcafafonkaaDoor
open Go.RowKit Go.Proofs.YtpeopcafafonkaaDoor.Num
set_option linter.unusedVariables false
set_option maxRecDepth 100000


/-! ### The one text of a number -/
theorem u8_back (b : UInt8) (h : 48 ≤ b.toNat) : UInt8.ofNat (b.toNat - 48 + 48) = b := by
  rw [Nat.sub_add_cancel h, UInt8.ofNat_toNat]
theorem back_map : ∀ (l : List UInt8), allDig l = true → ((l.map fun b => b.toNat - 48).map fun d => UInt8.ofNat (d + 48)) = l
  | [], _ => rfl
  | b :: l, h => by
    have h1 := allDig_mem h (List.mem_cons_self)
    have h2 : allDig l = true := by
      unfold allDig at h ⊢
      rw [List.all_cons, Bool.and_eq_true] at h
      exact h.2
    rw [List.map_cons, List.map_cons, back_map l h2, u8_back b h1.1]
theorem one_text {l : List UInt8} (hd : allDig l = true) (hne : l ≠ []) (h : l.length = 1 ∨ ∀ b r, l = b :: r → b.toNat ≠ 48) : dtext (dval l) = l := by
  have h1 := back_map l hd
  obtain ⟨es, hes⟩ : ∃ es, l.map (fun b => b.toNat - 48) = es := ⟨_, rfl⟩
  rw [hes] at h1
  have dg : Dg 10 es.reverse := by
    intro x hx
    rw [List.mem_reverse, ← hes, List.mem_map] at hx
    obtain ⟨b, hb, rfl⟩ := hx
    have := allDig_mem hd hb
    omega
  have hv := dval_rev es.reverse dg
  rw [List.map_reverse, List.reverse_reverse, h1] at hv
  cases hl : l with
  | nil => exact absurd hl hne
  | cons b r =>
    have hb := allDig_mem hd (b := b) (by rw [hl]; exact List.mem_cons_self)
    have he : es = (b.toNat - 48) :: (r.map fun b => b.toNat - 48) := by rw [← hes, hl]; rfl
    by_cases h48 : b.toNat = 48
    · rcases h with h | h
      · rw [hl] at h
        have hr : r = [] := List.eq_nil_of_length_eq_zero (by simpa using h)
        subst hr
        have hb2 : b = 48 := by rw [← UInt8.toNat_inj, h48]; rfl
        rw [hb2]; rfl
      · exact absurd h48 (h b r hl)
    · have htz : tz es.reverse = es.reverse := by
        rw [he, List.reverse_cons]
        exact tz_append_pos _ (by omega)
      have hcn : cn 10 (dval l) = es.reverse := by rw [hv, cn_vl (by omega) dg, htz]
      have hv0 : dval l ≠ 0 := by
        intro h0
        rw [h0, cn_zero] at hcn
        rw [he] at hcn
        simp at hcn
      rw [← hl]
      unfold dtext
      rw [if_neg hv0, hcn, List.map_reverse, List.reverse_reverse, h1]
theorem dval_zero_head (b : UInt8) (l : List UInt8) (h : b.toNat = 48) : dval (b :: l) = dval l := by
  unfold dval
  rw [List.foldl_cons, h]

theorem cut_one (S : ByteArray) (b : UInt8) (l : List UInt8) (h : S.data.toList = b :: l) : (S.extract 1 S.size).data.toList = l := by
  rw [ByteArray.data_extract]
  have h1 : S.size = S.data.toList.length := by rw [Array.length_toList]; rfl
  simp [h1, h]

theorem nparse_err {w : World} {s : ByteArray} {c : Nat} (hc : pcode s.data.toList = c) (h0 : c ≠ 0) (hm : s.size ≤ 9223372036854775807) :
    Calls Tryd.prog 46 #[.string s] w fun e w' => e = .returned (.tuple #[.slice none 0 0, .int .i64 (c : Int)]) ∧ Below w.heap.size w w' := by
  refine (parse_any s w hm).mono fun e w' ⟨h1, _, hb⟩ => ⟨?_, hb⟩
  have h := h1 (by rw [hc]; exact h0)
  rw [hc] at h
  exact h
theorem nparse_ok {w : World} {s : ByteArray} {x L : Nat} (hc : pcode s.data.toList = 0) (hx : dval s.data.toList = x) (hL : x < Q ^ L) (hm : s.size ≤ 9223372036854775807) :
    Calls Tryd.prog 46 #[.string s] w fun e w' => ∃ v, e = .returned (.tuple #[v, .int .i64 0]) ∧ Own .u64 53 w' w.heap.size v (cn Q x) ∧ Cw w' v x L ∧ Below w.heap.size w w' := by
  refine (parse_any s w hm).mono fun e w' ⟨_, h2, hb⟩ => ?_
  obtain ⟨v, he, ho⟩ := h2 hc
  rw [hx] at ho
  exact ⟨v, he, ho, Cw.of ho hL, hb⟩
theorem rparse_err {w : World} {s : ByteArray} {c : Nat} (hc : pcode s.data.toList = c) (h0 : c ≠ 0) (hm : s.size ≤ 9223372036854775807) :
    Calls Tryd.prog 47 #[.string s] w fun e w' => ∃ v, e = .returned (.tuple #[v, .int .i64 (c : Int)]) ∧ Ic w' v 0 0 ∧ Below w.heap.size w w' := by
  refine (rparse_any s w hm).mono fun e w' ⟨v, he, ho, hb⟩ => ⟨v, by rw [he, hc], ?_, hb⟩
  rw [hc, if_neg h0, ← cn_zero 10000] at ho
  exact Ic.of ho (by omega)
theorem rparse_ok {w : World} {s : ByteArray} {x L : Nat} (hc : pcode s.data.toList = 0) (hx : dval s.data.toList = x) (hL : x < 10000 ^ L) (hm : s.size ≤ 9223372036854775807) :
    Calls Tryd.prog 47 #[.string s] w fun e w' => ∃ v, e = .returned (.tuple #[v, .int .i64 0]) ∧ Ic w' v x L ∧ Below w.heap.size w w' := by
  refine (rparse_any s w hm).mono fun e w' ⟨v, he, ho, hb⟩ => ⟨v, by rw [he, hc]; rfl, ?_, hb⟩
  rw [if_pos hc, hx] at ho
  exact Ic.of ho hL
theorem cw_nil (w : World) : Cw w (.slice none 0 0) 0 0 := ⟨none, 0, by rw [cn_zero]; rfl, by rw [cn_zero]; exact Rd.nil, by rw [cn_zero]; simp, by simp [maxLen], by rw [cn_zero]; simp⟩

set_option maxHeartbeats 8000000 in
theorem texts_true (w : World) (s : ByteArray) (hs : s.data.toList.length ≤ reachBytes) :
    Calls Tryd.prog 10 #[.string s] w fun e w' => e = .returned (.bool true) ∧ Below w.heap.size w w' := by
  have hlen : s.data.toList.length = s.size := by rw [Array.length_toList]; rfl
  have hm : s.size ≤ 9223372036854775807 := by
    have h3 : reachBytes = 140737488351232 := by decide
    omega
  by_cases hc0 : pcode s.data.toList = 0
  case' neg =>
    obtain ⟨c, hc⟩ : ∃ c, pcode s.data.toList = c := ⟨_, rfl⟩
    rw [hc] at hc0
    have HC := hide hc
    have H0 := hide hc0
    have t1 : ((c : Int) != 0) = true := by rw [bne_iff_ne]; omega
    clear hc hc0 hlen hs
    go_enter Tryd.func10, Tryd.ntmps10
    go_wp2_with fail
    refine (speaks_true w).mono ?_
    rintro e w1 ⟨rfl, b⟩
    have B := hide b
    clear b
    go_wp2_with fail
    refine (nparse_err HC.out H0.out hm).mono ?_
    rintro e w2 ⟨rfl, b⟩
    have B := hide (Below.step B.out B.out.size b)
    clear b
    go_wp2_with fail
    refine (rparse_err HC.out H0.out hm).mono ?_
    rintro e w3 ⟨v, rfl, cv, b⟩
    have B := hide (Below.step B.out B.out.size b)
    have V := hide cv
    clear b cv
    go_wp2_with fail
    refine (to_l V.out.iw (by omega)).mono ?_
    rintro e w4 ⟨tv, rfl, -, ct, b⟩
    have B := hide (Below.step B.out B.out.size b)
    have T := hide ct
    clear b ct
    go_wp2_with fail
    refine (same_c (cw_nil _) T.out rfl).mono ?_
    rintro e w5 ⟨rfl, b⟩
    have B := hide (Below.step B.out B.out.size b)
    clear b
    go_wp2_with fail
    go_ret
    exact ⟨rfl, B.out⟩
  case' pos =>
    obtain ⟨x, hx⟩ : ∃ x, dval s.data.toList = x := ⟨_, rfl⟩
    have hcases : s.data.toList ≠ [] ∧ allDig s.data.toList = true ∧ s.data.toList.length ≤ 200 := by
      unfold pcode at hc0
      split at hc0
      · omega
      · rename_i h
        split at hc0
        · omega
        · rename_i h2
          have h3 : ¬ allDig s.data.toList = false := fun h' => h (Or.inr h')
          exact ⟨fun h' => h (Or.inl h'), by simpa using h3, by omega⟩
    obtain ⟨hne, hall, hl⟩ := hcases
    have hx10 : x < 10 ^ 200 := by
      rw [← hx]
      have h := dval_take_lt s.data.toList hall 200
      rwa [List.take_of_length_le hl] at h
    have hxQ : Hid (x < Q ^ 200) := hide (Nat.lt_of_lt_of_le hx10 (Nat.pow_le_pow_left (by unfold Q; omega) 200))
    have hxB : Hid (x < 10000 ^ 200) := hide (Nat.lt_of_lt_of_le hx10 (Nat.pow_le_pow_left (by omega) 200))
    have HX := hide hx
    have HC := hide hc0
    obtain ⟨S, hS⟩ : ∃ S : ByteArray, Tx S x := ⟨_, Tx.of x⟩
    have TS := hide hS
    have start : ∃ S' : ByteArray, Value.string s = .string S' ∧ Hid (allDig S'.data.toList = true) ∧ Hid (S'.data.toList ≠ []) ∧ Hid (dval S'.data.toList = x) := ⟨s, rfl, hide hall, hide hne, HX⟩
    have Start := hide start
    clear hx hx10 hc0 hlen hs hS hne hall hl start
    go_enter Tryd.func10, Tryd.ntmps10
    go_wp2_with fail
    refine (speaks_true w).mono ?_
    rintro e w1 ⟨rfl, b⟩
    have B := hide b
    clear b
    go_wp2_with fail
    refine (nparse_ok HC.out HX.out hxQ.out hm).mono ?_
    rintro e w2 ⟨av, rfl, -, ca, b⟩
    have B := hide (Below.step B.out B.out.size b)
    have A := hide ca
    clear b ca
    go_wp2_with fail
    refine (rparse_ok HC.out HX.out hxB.out hm).mono ?_
    rintro e w3 ⟨v, rfl, cv, b⟩
    have A := hide (A.out.step b)
    have B := hide (Below.step B.out B.out.size b)
    have V := hide cv
    clear b cv
    go_wp2_with fail
    refine (to_l V.out.iw (by omega)).mono ?_
    rintro e w4 ⟨tv, rfl, -, ct, b⟩
    have A := hide (A.out.step b)
    have B := hide (Below.step B.out B.out.size b)
    have T := hide ct
    clear b ct
    go_wp2_with fail
    refine (same_c A.out T.out rfl).mono ?_
    rintro e w5 ⟨rfl, b⟩
    have A := hide (A.out.step b)
    have B := hide (Below.step B.out B.out.size b)
    clear b
    go_wp2_with fail
    refine (text_s A.out.nw TS.out (by omega)).mono ?_
    rintro e w6 ⟨rfl, b⟩
    have B := hide (Below.step B.out B.out.size b)
    clear b
    clear hxQ hxB HX HC A T
    go_wp2_with fail
    go_loop [0] (fun sv => ∃ S' : ByteArray, sv = .string S' ∧ Hid (allDig S'.data.toList = true) ∧ Hid (S'.data.toList ≠ []) ∧ Hid (dval S'.data.toList = x)) (fun sv => match sv with | .string S' => S'.size | _ => 0)
    case atStart => exact Start.out
    case round =>
      clear Start hm
      obtain ⟨S', rfl, had, hne, hdv⟩ := hrel
      have hsz : Hid (S'.data.toList.length = S'.size) := hide (by rw [Array.length_toList]; rfl)
      have fin : (S'.data.toList.length = 1 ∨ ∀ b r, S'.data.toList = b :: r → b.toNat ≠ 48) → S' = S := by
        intro h
        have h1 := one_text had.out hne.out h
        rw [hdv.out] at h1
        have h2 := TS.out.eq
        rw [h1] at h2
        cases S' with
        | mk d => rw [← h2]
      cases hl : S'.data.toList with
      | nil => exact absurd hl hne.out
      | cons b r =>
        have hL : S'.size = r.length + 1 := by rw [← hsz.out, hl]; rfl
        have h0 : 0 < S'.size := by omega
        have hy : (S'[0]'h0).toNat = b.toNat := by
          have h4 : S'[0]'h0 = S'.data.toList[0]'(by rw [hl]; simp) := rfl
          rw [h4]
          simp only [hl, List.getElem_cons_zero]
        by_cases h1 : 1 < S'.size
        · have tl : decide ((1 : Int) < (S'.size : Int)) = true := decide_eq_true (by omega)
          by_cases h48 : b.toNat = 48
          · have t1 : (((48 : Int)) == 48) = true := rfl
            rw [h48] at hy
            have hcut := cut_one S' b r hl
            have hr : Hid (allDig r = true) := hide (by
              have h5 := had.out
              rw [hl] at h5
              unfold allDig at h5 ⊢
              rw [List.all_cons, Bool.and_eq_true] at h5
              exact h5.2)
            have hrn : Hid (r ≠ []) := hide (by
              intro h5
              rw [h5] at hL
              simp at hL
              omega)
            have hrv : Hid (dval r = x) := hide (by rw [← hdv.out, hl, dval_zero_head b r h48])
            have hnew : Hid (∃ S2 : ByteArray, Value.string (S'.extract 1 S'.size) = .string S2 ∧ Hid (allDig S2.data.toList = true) ∧ Hid (S2.data.toList ≠ []) ∧ Hid (dval S2.data.toList = x)) := hide ⟨_, rfl, by rw [hcut]; exact hr, by rw [hcut]; exact hrn, by rw [hcut]; exact hrv⟩
            have hms : Hid ((S'.extract 1 S'.size).size < S'.size) := hide (by rw [ByteArray.size_extract]; omega)
            clear fin had hne hdv hsz hl hL h48 hcut hr hrn hrv
            go_wp2_with fail
            go_round
            case rel => exact hnew.out
            case measure => exact hms.out
          · have t1 : ((b.toNat : Int) == 48) = false := beq_eq_false_iff_ne.2 (by omega)
            have hSS := fin (Or.inr (fun b' r' he => by rw [hl] at he; injection he with h6 _; rw [← h6]; exact h48))
            subst hSS
            clear fin had hne hdv hsz hl hL h48 TS
            go_wp2_with fail
            go_ret
            exact ⟨rfl, B.out⟩
        · have hSS := fin (Or.inl (by rw [hsz.out]; omega))
          subst hSS
          have t1 : decide ((1 : Int) < (S'.size : Int)) = false := decide_eq_false (by omega)
          clear fin had hne hdv hsz hl hL TS hy
          go_wp2_with fail
          go_ret
          exact ⟨rfl, B.out⟩
end Go.Proofs.YtpeopcafafonkaaDoor
