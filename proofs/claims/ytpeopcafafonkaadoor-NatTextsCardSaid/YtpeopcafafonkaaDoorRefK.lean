/-
  The document's own answer: decimal digits read.
-/
import Derived.Test.YtpeopcafafonkaaDoorRefJ
namespace Go.Proofs.YtpeopcafafonkaaDoor
open Go.RowKit Go.Proofs.YtpeopcafafonkaaDoor.Num
set_option linter.unusedVariables false
set_option maxRecDepth 100000

def RpRet (t : TypeId) (w : World) (l : List UInt8) (e : Ending) (w' : World) : Prop :=
  ∃ v, e = .returned (.tuple #[v, .int .i64 (pcode l : Int)]) ∧ Own .i64 t w' w.heap.size v (if pcode l = 0 then cn 10000 (dval l) else []) ∧ Below w.heap.size w w'
theorem rpRet_err {w wr : World} {l : List UInt8} {c : Nat} (h : pcode l = c) (hc : c ≠ 0) (hb : Below w.heap.size w wr) :
    RpRet 3 w l (.returned (.tuple #[.slice (some ⟨wr.heap.size, 0, none⟩) 0 0, .int .i64 (c : Int)])) (wr.alloc (.cells #[] 3)) :=
  ⟨_, by rw [h], by rw [h, if_neg hc]; exact own_empty .i64 3 wr w.heap.size hb.size, hb.alloc hb.size _⟩

def RpRel (t : TypeId) (w : World) (n : Nat) (l : List UInt8) (v iv : Value) (wr : World) : Prop :=
  ∃ k : Nat, k ≤ n ∧ iv = .int .i64 (k : Int) ∧ Own .i64 t wr w.heap.size v (cn 10000 (dval (l.take k))) ∧ Below w.heap.size w wr

theorem allDig_snoc (l : List UInt8) (b : UInt8) : allDig (l ++ [b]) = (allDig l && (decide (48 ≤ b.toNat) && decide (b.toNat ≤ 57))) := by
  unfold allDig
  rw [List.all_append]
  simp
theorem allDig_take_false {l : List UInt8} {k : Nat} (h : allDig (l.take k) = false) : allDig l = false := by
  cases h1 : allDig l with
  | false => rfl
  | true =>
    unfold allDig at h h1
    have h2 : (l.take k).all (fun b => decide (48 ≤ b.toNat) && decide (b.toNat ≤ 57)) = true := List.all_eq_true.2 (fun x hx => List.all_eq_true.1 h1 x (List.mem_of_mem_take hx))
    rw [h2] at h
    exact h

theorem ten_mul {W : World} {ov : Value} {P L : Nat} (h1 : Ic W ov P L) (hL : L ≤ 400000000000) :
    Calls Tryd.prog 35 #[ov, .slice (some ⟨W.heap.size, 0, none⟩) 1 1] (W.alloc (.cells #[.int .i64 10] 3)) fun e w' => ∃ r, e = .returned r ∧ Ic w' r (P * 10) (L + 1) ∧ Below W.heap.size W w' := by
  have ha : Below W.heap.size W (W.alloc (.cells #[.int .i64 10] 3)) := (Below.refl _ _).alloc (Nat.le_refl _) _
  have h2 : Iw (W.alloc (.cells #[.int .i64 10] 3)) (.slice (some ⟨W.heap.size, 0, none⟩) 1 1) 10 1 := iw_one W 3 (x := 10) (by omega)
  exact (imul (h1.step ha).iw h2 hL (by omega)).mono fun e w' ⟨r, he, _, hi, hb⟩ => ⟨r, he, hi, ha.trans (hb.mono ha.size)⟩
theorem ten_small {W : World} {rv : Value} {d P L : Nat} (h1 : Ic W rv P L) (hd : d ≤ 9) :
    Calls Tryd.prog 75 #[.int .i64 (d : Int)] W fun e w' => ∃ r, e = .returned r ∧ Ic w' r d 1 ∧ Ic w' rv P L ∧ Below W.heap.size W w' :=
  (ismall W (by omega) (by omega)).mono fun e w' ⟨r, he, _, hi, hb⟩ => ⟨r, he, hi, h1.step hb, hb⟩
theorem ten_add {W : World} {rv sv : Value} {d P L : Nat} (h1 : Ic W rv P L) (h3 : Ic W sv d 1) (hL : 1 ≤ L) (hL2 : L ≤ 800000000000) :
    Calls Tryd.prog 30 #[rv, sv] W fun e w' => ∃ r, e = .returned r ∧ Own .i64 3 w' W.heap.size r (cn 10000 (P + d)) ∧ Below W.heap.size W w' :=
  (iadd (K := L) h1.iw h3.iw hL2 (by omega) hL).mono fun e w' ⟨r, he, ho, hi, hb⟩ => ⟨r, he, ho, hb⟩

set_option maxHeartbeats 4000000 in
theorem rparse_any (s : ByteArray) (w : World) (hs : s.size ≤ 9223372036854775807) : Calls Tryd.prog 47 #[.string s] w (RpRet 3 w s.data.toList) := by
  have Hlen : Hid (s.data.toList.length = s.size) := hide (by rw [Array.length_toList]; rfl)
  go_enter Tryd.func47, Tryd.ntmps47
  go_wp2_with fail
  go_loop [4] (fun iv => ∃ k : Nat, k ≤ s.size ∧ iv = .int .i64 (k : Int) ∧ Hid (allDig (s.data.toList.take k) = true)) (fun iv => s.size - (intOf iv).toNat)
  case atStart => exact ⟨0, Nat.zero_le _, rfl, hide rfl⟩
  case round =>
    obtain ⟨k, hk, rfl, hda⟩ := hrel
    by_cases hlt : k < s.size
    · have hkl : k < s.data.toList.length := by rw [Hlen.out]; exact hlt
      obtain ⟨y, hy⟩ : ∃ y, (s[k]'hlt).toNat = y := ⟨_, rfl⟩
      have hy2 : Hid ((s.data.toList[k]'hkl).toNat = y) := hide hy
      have hsn : Hid (allDig (s.data.toList.take (k + 1)) = (decide (48 ≤ y) && decide (y ≤ 57))) := hide (by
        rw [List.take_succ_eq_append_getElem hkl, allDig_snoc, hda.out, hy2.out]; rfl)
      by_cases hdig : 48 ≤ y ∧ y ≤ 57
      · have t1 : decide ((y : Int) < 48) = false := decide_eq_false (by omega)
        have t2 : decide ((57 : Int) < (y : Int)) = false := decide_eq_false (by omega)
        have e2 : Hid (allDig (s.data.toList.take (k + 1)) = true) := hide (by rw [hsn.out]; simp [hdig.1, hdig.2])
        clear hsn hy2 hda hdig
        go_wp2_with fail
        go_round
        case rel => exact ⟨k + 1, by omega, rfl, e2⟩
        case measure => simp [intOf]; omega
      · have hbad : allDig s.data.toList = false := allDig_take_false (k := k + 1) (by rw [hsn.out]; simp; omega)
        have hp : pcode s.data.toList = 5 := by unfold pcode; rw [if_pos (Or.inr hbad)]
        have fin := rpRet_err (w := w) (wr := w) hp (by omega) (Below.refl _ _)
        have hsplit : (decide ((y : Int) < 48) = true) ∨ (decide ((y : Int) < 48) = false ∧ decide ((57 : Int) < (y : Int)) = true) := by
          by_cases h : y < 48
          · exact .inl (decide_eq_true (by omega))
          · exact .inr ⟨decide_eq_false (by omega), decide_eq_true (by omega)⟩
        clear hsn hy2 hda hdig hbad hp
        rcases hsplit with t1 | ⟨t1, t2⟩
        all_goals
          go_wp2_with fail
          go_ret2
          exact fin
    · obtain rfl : k = s.size := by omega
      have hall : Hid (allDig s.data.toList = true) := hide (by
        have h := hda.out
        rw [List.take_of_length_le (by rw [Hlen.out]; exact Nat.le_refl _)] at h
        exact h)
      clear hda hlt
      by_cases h0 : s.size = 0
      · have hn : s.data.toList = [] := List.eq_nil_of_length_eq_zero (by rw [Hlen.out]; exact h0)
        have hse : s = ⟨#[]⟩ := by
          cases s with
          | mk d =>
            have : d = #[] := by cases d; simp_all
            rw [this]
        have hp : pcode s.data.toList = 5 := by unfold pcode; rw [if_pos (Or.inl hn)]
        have fin := rpRet_err (w := w) (wr := w) hp (by omega) (Below.refl _ _)
        clear hp hn hall Hlen h0 hk
        subst hse
        go_wp2_with fail
        go_ret2
        exact fin
      · have hne : s.data.toList ≠ [] := fun h => h0 (by rw [← Hlen.out, h]; rfl)
        have hemp : s.toList.isEmpty = false := by
          rw [toList_data]
          cases hl : s.data.toList with
          | nil => exact absurd hl hne
          | cons a b => rfl
        by_cases hl : 200 < s.size
        · have hp : pcode s.data.toList = 1 := by unfold pcode; rw [if_neg (by simp [hne, hall.out]), if_pos (by rw [Hlen.out]; exact hl)]
          have fin := rpRet_err (w := w) (wr := w) hp (by omega) (Below.refl _ _)
          have hd : decide ((200 : Int) < (s.size : Int)) = true := decide_eq_true (by omega)
          clear hp hne hall Hlen h0 hk
          go_wp2_with fail
          go_ret2
          exact fin
        · have hd : decide ((200 : Int) < (s.size : Int)) = false := decide_eq_false (by omega)
          have hp : Hid (pcode s.data.toList = 0) := hide (by unfold pcode; rw [if_neg (by simp [hne, hall.out]), if_neg (by rw [Hlen.out]; exact hl)])
          have hl2 : s.size ≤ 200 := by omega
          clear hne h0 hk hl
          go_wp2_with fail
          go_loopw [5, 6] (fun v iv wr => RpRel 3 w s.size s.data.toList v iv wr) (fun _ iv _ => s.size - (intOf iv).toNat)
          case atStart => exact ⟨0, Nat.zero_le _, rfl, (by rw [List.take_zero, show dval [] = 0 from rfl, cn_zero]; exact own_empty .i64 3 w w.heap.size (Nat.le_refl _)), (Below.refl _ _).alloc (Nat.le_refl _) _⟩
          case round =>
            clear hemp hd
            obtain ⟨k, hk, rfl, hown, hbel⟩ := hrel
            by_cases hlt : k < s.size
            · have hkl : k < s.data.toList.length := by rw [Hlen.out]; exact hlt
              have hbd := allDig_mem hall.out (List.getElem_mem hkl)
              obtain ⟨y, hy⟩ : ∃ y, (s[k]'hlt).toNat = y := ⟨_, rfl⟩
              have hy2 : (s.data.toList[k]'hkl).toNat = y := hy
              rw [hy2] at hbd
              obtain ⟨d, hd⟩ : ∃ d, y - 48 = d := ⟨_, rfl⟩
              have hd9 : d ≤ 9 := by omega
              have e1 : IntKind.u8.wrap ((y : Int) - 48) = (d : Int) := by
                have h : (y : Int) - 48 = (d : Int) := by omega
                rw [h]
                simp [IntKind.wrap, IntKind.bits, IntKind.signed]; omega
              have e2 : IntKind.i64.wrap (d : Int) = (d : Int) := IntWalk.i64_in _ (by omega)
              obtain ⟨P, hP⟩ : ∃ P, Hid (dval (s.data.toList.take k) = P) := ⟨_, hide rfl⟩
              have hPb : P < 10000 ^ 200 := by
                rw [← hP.out]
                refine Nat.lt_of_lt_of_le (dval_take_lt s.data.toList hall.out k) ?_
                exact Nat.le_trans (Nat.pow_le_pow_right (by omega) (show k ≤ 200 by omega)) (Nat.pow_le_pow_left (by omega) 200)
              rw [hP.out] at hown
              have IOh := hide (Ic.of hown hPb)
              have hnx : Hid (dval (s.data.toList.take (k + 1)) = P * 10 + d) := hide (by
                rw [List.take_succ_eq_append_getElem hkl, dval_snoc, hP.out, hy2, hd])
              have BEL := hide hbel
              clear hown hbel hPb hP hbd hy2 hd
              go_wp2_with fail
              go_region_held3 (fun _ => True) (first | trivial | exact True.intro)
                (first
                  | (go_at_call 35; refine (ten_mul (W := wr.drew) (by exact IOh.out) (by omega)).mono ?_; rintro e w3 ⟨r, rfl, ir3, hb3⟩)
                  | (go_at_call 75; refine (ten_small (by exact ir3) hd9).mono ?_; rintro e w4 ⟨sv, rfl, is4, ir4, hb4⟩)
                  | (go_at_call 30; refine (ten_add (by exact ir4) (by exact is4) (by omega) (by omega)).mono ?_; rintro e w5 ⟨v5, rfl, ho5, hb5⟩))
              all_goals
                have B5 : Below wr.heap.size wr w5 := below_of_drew ((hb3.trans (hb4.mono hb3.size)).trans (hb5.mono (Nat.le_trans hb3.size hb4.size)))
                have fin : RpRel 3 w s.size s.data.toList v5 (.int .i64 ((k + 1 : Nat) : Int)) w5 := by
                  refine ⟨k + 1, by omega, rfl, ?_, BEL.out.trans (B5.mono BEL.out.size)⟩
                  rw [hnx.out]
                  refine ho5.mono ?_
                  have h1 := BEL.out.size
                  have h3 := hb3.size
                  have h4 := hb4.size
                  first | omega | (simp at h3; omega)
                clear hb3 hb4 hb5 ir3 is4 ir4 ho5 B5 IOh hnx BEL
                go_wp2_with fail
                go_roundw
                case rel => exact fin
                case measure => simp [intOf]; omega
            · obtain rfl : k = s.size := by omega
              have fin : RpRet 3 w s.data.toList (.returned (.tuple #[u5, .int .i64 0])) wr := by
                refine ⟨u5, by rw [hp.out]; rfl, ?_, hbel⟩
                rw [if_pos hp.out]
                rw [List.take_of_length_le (by rw [Hlen.out]; exact Nat.le_refl _)] at hown
                exact hown
              clear hown hbel hp hall Hlen
              go_wp2_with fail
              go_ret2
              exact fin
end Go.Proofs.YtpeopcafafonkaaDoor
