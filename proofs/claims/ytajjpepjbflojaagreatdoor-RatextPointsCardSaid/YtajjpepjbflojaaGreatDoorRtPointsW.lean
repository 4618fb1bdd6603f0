/-
  The walk of RatextPoints: true.
-/
import Derived.Test.YtajjpepjbflojaaGreatDoorRtThereW
import Derived.Test.YtajjpepjbflojaaGreatDoorLat2
import Derived.Laws.BitsLemmas
import Derived.Laws.BytesArg


namespace Go.Proofs.YtajjpepjbflojaaGreatDoor
open Go.RowKit Go.Proofs.YtajjpepjbflojaaGreatDoor.Num
set_option linter.unusedVariables false
set_option linter.unusedSimpArgs false
set_option maxRecDepth 100000

theorem bad_first {l : List UInt8} (h : allDig l = false) : ∃ (j : Nat) (b : UInt8), l[j]? = some b ∧ dgB b = false ∧ ∀ (i : Nat) (c : UInt8), i < j → l[i]? = some c → dgB c = true := by
  induction l with
  | nil => cases h
  | cons b l ih =>
    by_cases hb : dgB b = true
    · have h2 : allDig l = false := by
        rw [allDig_dgB, List.all_cons, hb, Bool.true_and] at h
        exact h
      obtain ⟨j, c, h3, h4, h5⟩ := ih h2
      refine ⟨j + 1, c, by simpa using h3, h4, fun i d hi hd => ?_⟩
      cases i with
      | zero => simp at hd; subst hd; exact hb
      | succ i => exact h5 i d (by omega) (by simpa using hd)
    · exact ⟨0, b, rfl, by simpa using hb, fun i c hi => absurd hi (by omega)⟩
theorem dgB_iff (b : UInt8) : dgB b = true ↔ 48 ≤ b.toNat ∧ b.toNat ≤ 57 := by unfold dgB; simp

theorem and1023 (n : Int) : bits .and .i64 n 1023 = n % 1024 := by
  have h1 : (BitVec.ofInt 64 1023).toNat = 2 ^ 10 - 1 := by decide
  have key : (BitVec.ofInt 64 n &&& BitVec.ofInt 64 1023).toNat = (n % ((2 ^ 64 : Nat) : Int)).toNat % 2 ^ 10 := by
    rw [BitVec.toNat_and, BitVec.toNat_ofInt, h1, Nat.and_two_pow_sub_one_eq_mod]
  show IntKind.i64.wrap ((BitVec.ofInt 64 n &&& BitVec.ofInt 64 1023).toNat : Nat) = n % 1024
  rw [key, IntKind.wrap_i64]
  omega
theorem pick_at (n : Int) (d : Int) (hd : 1 ≤ d) (hd2 : d ≤ 1000) : ∃ p : Nat, (bits .and .i64 n 1023).tmod d = (p : Int) ∧ (p : Int) < d := by
  rw [and1023]
  obtain ⟨m, hm⟩ := Int.eq_ofNat_of_zero_le (show 0 ≤ n % 1024 by omega)
  obtain ⟨q, rfl⟩ := Int.eq_ofNat_of_zero_le (show 0 ≤ d by omega)
  rw [hm]
  refine ⟨m % q, ?_, ?_⟩
  · exact (Int.ofNat_tmod m q).symm
  · have := Nat.mod_lt m (show 0 < q by omega); omega
theorem cat_rep {Z : ByteArray} {j : Nat} (h : Z.data.toList = List.replicate j 48) : (Z ++ ⟨#[48]⟩).data.toList = List.replicate (j + 1) 48 := by
  rw [cat_list, h, List.replicate_succ']

/-- The number of the digits' first and second text. -/
def ptq (l : List UInt8) (j : Nat) : Rat := ((dval l : Int) : Rat) / (((10 ^ j : Nat) : Int) : Rat)
theorem allDig_take {l : List UInt8} (h : allDig l = true) (k : Nat) : allDig (l.take k) = true := by
  unfold allDig at *
  rw [List.all_eq_true] at *
  exact fun b hb => h b (List.mem_of_mem_take hb)
theorem allDig_drop {l : List UInt8} (h : allDig l = true) (k : Nat) : allDig (l.drop k) = true := by
  unfold allDig at *
  rw [List.all_eq_true] at *
  exact fun b hb => h b (List.mem_of_mem_drop hb)
theorem ps_point {T S : ByteArray} {k : Nat} {w : World} (hd : allDig T.data.toList = true) (h1 : 1 ≤ k) (h2 : k < T.size) (h9 : T.size ≤ 90) (hS : S.data.toList = T.data.toList.take k ++ 46 :: T.data.toList.drop k) (he : Ev w) :
    Calls Tryz.prog 13 #[.string S] w fun e w' => ∃ v, e = .returned (.tuple #[v, .int .i64 0]) ∧ Rc w' v (ptq T.data.toList (T.size - k)) 600 ∧ Below w.heap.size w w' := by
  have hl : T.data.toList.length = T.size := (bsize T).symm
  have n1 : (T.data.toList.take k).length = k := by rw [List.length_take]; omega
  have n2 : (T.data.toList.drop k).length = T.size - k := by rw [List.length_drop]; omega
  have a0 : T.data.toList.take k ≠ [] := by intro h; rw [h] at n1; simp only [List.length_nil] at n1; omega
  have a1 : T.data.toList.drop k ≠ [] := by intro h; rw [h] at n2; simp only [List.length_nil] at n2; omega
  obtain ⟨c1, c2⟩ := pt_point (allDig_take hd k) a0 (allDig_drop hd k) a1 (by rw [n1, n2]; omega)
  refine ps_ok (by rw [hS]; exact c1) (by rw [hS, c2, List.take_append_drop, n2]; rfl) (by rw [bsize, hS, List.length_append, List.length_cons, n1, n2]; omega) he

theorem ps_over {T S : ByteArray} {j : Nat} {w : World} (hd : allDig T.data.toList = true) (h1 : 1 ≤ T.size) (h9 : T.size ≤ 90) (hj : j ≤ 90) (hS : S.data.toList = T.data.toList ++ 47 :: 49 :: List.replicate j 48) (he : Ev w) :
    Calls Tryz.prog 13 #[.string S] w fun e w' => ∃ v, e = .returned (.tuple #[v, .int .i64 0]) ∧ Rc w' v (ptq T.data.toList j) 600 ∧ Below w.heap.size w w' := by
  have hl : T.data.toList.length = T.size := (bsize T).symm
  have a0 : T.data.toList ≠ [] := by intro h; rw [h] at hl; simp only [List.length_nil] at hl; omega
  obtain ⟨c1, c2⟩ := pt_over hd a0 j (by omega)
  exact ps_ok (by rw [hS]; exact c1) (by rw [hS, c2]; rfl) (by rw [bsize, hS, List.length_append, List.length_cons, List.length_cons, List.length_replicate]; omega) he
/-- The number of the digits' third and fourth text. -/
def ptz (l : List UInt8) (n : Nat) : Rat := ((-((dval l * 10 ^ n : Nat) : Int) : Int) : Rat) / ((1 : Int) : Rat)
theorem ps_exp {T S : ByteArray} {n : Nat} {c : UInt8} {w : World} (hd : allDig T.data.toList = true) (h1 : 1 ≤ T.size) (h9 : T.size ≤ 90) (hn : n < 9) (hc : c.toNat = 48 + n) (hS : S.data.toList = 45 :: (T.data.toList ++ [101, c])) (he : Ev w) :
    Calls Tryz.prog 13 #[.string S] w fun e w' => ∃ v, e = .returned (.tuple #[v, .int .i64 0]) ∧ Rc w' v (ptz T.data.toList n) 600 ∧ Below w.heap.size w w' := by
  have hl : T.data.toList.length = T.size := (bsize T).symm
  have a0 : T.data.toList ≠ [] := by intro h; rw [h] at hl; simp only [List.length_nil] at hl; omega
  obtain ⟨c1, c2⟩ := pt_exp hd a0 n hn c hc (by omega)
  exact ps_ok (by rw [hS]; exact c1) (by rw [hS, c2]; rfl) (by rw [bsize, hS, List.length_cons, List.length_append, List.length_cons, List.length_cons, List.length_nil]; omega) he
theorem ps_zeros {T S : ByteArray} {n : Nat} {w : World} (hd : allDig T.data.toList = true) (h1 : 1 ≤ T.size) (h9 : T.size ≤ 90) (hn : n < 9) (hS : S.data.toList = 45 :: (T.data.toList ++ List.replicate n 48)) (he : Ev w) :
    Calls Tryz.prog 13 #[.string S] w fun e w' => ∃ v, e = .returned (.tuple #[v, .int .i64 0]) ∧ Rc w' v (ptz T.data.toList n) 600 ∧ Below w.heap.size w w' := by
  have hl : T.data.toList.length = T.size := (bsize T).symm
  have a0 : T.data.toList ≠ [] := by intro h; rw [h] at hl; simp only [List.length_nil] at hl; omega
  obtain ⟨c1, c2⟩ := pt_zeros hd a0 n hn (by omega)
  exact ps_ok (by rw [hS]; exact c1) (by rw [hS, c2]; rfl) (by rw [bsize, hS, List.length_cons, List.length_append, List.length_replicate]; omega) he
theorem conv_one (w : World) (s : Bool) (u v : Value) {i : Nat} {c : UInt8} (hc : c.toNat = 48 + i) (hi : i < 9) :
    (convert 44 9 (.slice (some ⟨w.heap.size + 1, 0, none⟩) 1 1)).run Tryz.prog ((w.alloc (rbox s u v)).alloc (.cells #[.int .u8 (48 + (i : Int))] 5)) = .ok (.string ⟨#[c]⟩) ((w.alloc (rbox s u v)).alloc (.cells #[.int .u8 (48 + (i : Int))] 5)) := by
  have h := run_convert_bytes_arg (P := Tryz.prog) ((w.alloc (rbox s u v)).alloc (.cells #[.int .u8 (48 + (i : Int))] 5)) 44 5 Tryz.underlying44 Tryz.underlying5 (w.heap.size + 1) 0 1 1 [48 + (i : Int)] rfl
  have h2 := h (fun j hj => by
    obtain rfl : j = 0 := by omega
    have h3 := heap_alloc_new (w.alloc (rbox s u v)) (.cells #[.int .u8 (48 + (i : Int))] 5)
    rw [World.size_alloc] at h3
    exact cell_of_row _ _ 0 _ _ _ h3) 9 Tryz.underlying9
  have e : strOfNums [48 + (i : Int)] = ⟨#[c]⟩ := by
    have e1 : UInt8.ofNat (48 + (i : Int)).toNat = c := by
      rw [show (48 + (i : Int)).toNat = c.toNat by rw [hc]; omega]
      exact UInt8.ofNat_toNat
    show (⟨#[UInt8.ofNat (48 + (i : Int)).toNat]⟩ : ByteArray) = _
    rw [e1]
  rw [e] at h2
  exact h2
theorem cat_run (t : TypeId) (W : World) {a b : ByteArray} (ha : a.size ≤ 1000) (hb : b.size ≤ 1000) : (binOp .add t (.string a) (.string b)).run Tryz.prog W = .ok (.string (a ++ b)) W := by
  have h := run_string_add_sum (P := Tryz.prog) (w := W) a b (by omega)
  simp [binOp, h]

set_option maxHeartbeats 2000000 in
theorem rpoints_len (w : World) (T : ByteArray) (ai xi : Int) (hs : T.size ≤ 1000000000000000000) (he : Ev w) (hlen : T.size < 2 ∨ 90 < T.size) :
    Calls Tryz.prog 5 #[.string T, .int .i64 ai, .int .i64 xi] w fun e w' => e = .returned (.bool true) ∧ Below w.heap.size w w' := by
  have E := hide he
  clear he
  by_cases h2 : T.size < 2
  · have t0 : decide ((T.size : Int) < 2) = true := decide_eq_true (by omega)
    clear hlen h2
    go_enter Tryz.func5, Tryz.ntmps5
    go_wp2_with fail
    refine (tspeaks_true _ E.out).mono ?_
    rintro e w1 ⟨rfl, bx⟩
    have B := hide bx
    clear bx E
    go_wp2_with fail
    go_ret
    exact ⟨rfl, B.out⟩
  · have t0 : decide ((T.size : Int) < 2) = false := decide_eq_false (by omega)
    have t1 : decide ((90 : Int) < (T.size : Int)) = true := decide_eq_true (by omega)
    clear hlen h2
    go_enter Tryz.func5, Tryz.ntmps5
    go_wp2_with fail
    refine (tspeaks_true _ E.out).mono ?_
    rintro e w1 ⟨rfl, bx⟩
    have B := hide bx
    clear bx E
    go_wp2_with fail
    go_ret
    exact ⟨rfl, B.out⟩
theorem at_list (T : ByteArray) (k : Nat) (h : k < T.size) : T.data.toList[k]? = some (T[k]) := by
  have h1 : T[k] = T.data.toList[k]'(by rw [← bsize]; exact h) := rfl
  rw [h1]
  exact List.getElem?_eq_getElem _

set_option maxHeartbeats 4000000 in
theorem rpoints_bad (w : World) (T : ByteArray) (ai xi : Int) (l0 : 2 ≤ T.size) (l1 : T.size ≤ 90) (he : Ev w) (hdig : allDig T.data.toList = false) :
    Calls Tryz.prog 5 #[.string T, .int .i64 ai, .int .i64 xi] w fun e w' => e = .returned (.bool true) ∧ Below w.heap.size w w' := by
  have E := hide he
  have t0 : decide ((T.size : Int) < 2) = false := decide_eq_false (by omega)
  have t1 : decide ((90 : Int) < (T.size : Int)) = false := decide_eq_false (by omega)
  obtain ⟨j, b, hj, hb, hpre⟩ := bad_first hdig
  have hjl : j < T.size := by
    rw [bsize]
    rcases Nat.lt_or_ge j T.data.toList.length with h | h
    · exact h
    · rw [List.getElem?_eq_none h] at hj; cases hj
  have HJ := hide hj
  have HB := hide hb
  have HP := hide hpre
  clear he hdig hj hb hpre
  go_enter Tryz.func5, Tryz.ntmps5
  go_wp2_with fail
  refine (tspeaks_true _ E.out).mono ?_
  rintro e w1 ⟨rfl, bx⟩
  have B := hide bx
  clear bx E
  go_wp2_with fail
  go_loop [7] (fun iv => ∃ k : Nat, k ≤ j ∧ iv = .int .i64 (k : Int)) (fun iv => j + 1 - (intOf iv).toNat)
  case atStart => exact ⟨0, Nat.zero_le _, rfl⟩
  case round =>
    obtain ⟨k, hk, rfl⟩ := hrel
    have hlt : k < T.size := by omega
    have hat := at_list T k hlt
    obtain ⟨y, hyy⟩ : ∃ y, (T[k]).toNat = y := ⟨_, rfl⟩
    by_cases hkj : k < j
    · have hy := (dgB_iff _).1 (HP.out k _ hkj hat)
      rw [hyy] at hy
      have q1 : decide ((y : Int) < 48) = false := decide_eq_false (by omega)
      have q2 : decide ((57 : Int) < (y : Int)) = false := decide_eq_false (by omega)
      obtain ⟨hy1, hy2⟩ := hy
      clear hat
      go_wp2_with fail
      go_round
      case rel => exact ⟨k + 1, by omega, by go_num⟩
      case measure => simp [intOf]; omega
    · have hkk : k = j := by omega
      have hbb : dgB (T[k]) = false := by
        have h1 := HJ.out
        rw [← hkk, hat] at h1
        injection h1 with h1
        rw [h1]; exact HB.out
      have hy : ¬ (48 ≤ y ∧ y ≤ 57) := by
        intro h
        rw [← hyy] at h
        rw [(dgB_iff _).2 h] at hbb
        cases hbb
      clear hkk hbb hat hkj hk
      by_cases h48 : y < 48
      · have q1 : decide ((y : Int) < 48) = true := decide_eq_true (by omega)
        clear hy
        go_wp2_with fail
        go_ret
        exact ⟨rfl, B.out⟩
      · have q1 : decide ((y : Int) < 48) = false := decide_eq_false (by omega)
        have q2 : decide ((57 : Int) < (y : Int)) = true := decide_eq_true (by omega)
        clear hy
        go_wp2_with fail
        go_ret
        exact ⟨rfl, B.out⟩

set_option maxHeartbeats 8000000 in
theorem rpoints_true (w : World) (T : ByteArray) (ai xi : Int) (hT : T.data.toList.length ≤ reachBytes) (ha : (Lit.int .i64 ai).wf = true) (hx : (Lit.int .i64 xi).wf = true) (he : Ev w) :
    Calls Tryz.prog 5 #[.string T, .int .i64 ai, .int .i64 xi] w fun e w' => e = .returned (.bool true) ∧ Below w.heap.size w w' := by
  have E := hide he
  have B := hide (Below.refl w.heap.size w)
  have HT := hide (reach_small hT)
  clear he hT
  have hs9 : T.size ≤ 1000000000000000000 := HT.out
  by_cases hlen : T.size < 2 ∨ 90 < T.size
  · exact rpoints_len w T ai xi HT.out E.out hlen
  · have t0 : decide ((T.size : Int) < 2) = false := decide_eq_false (by omega)
    have t1 : decide ((90 : Int) < (T.size : Int)) = false := decide_eq_false (by omega)
    have l0 : 2 ≤ T.size := by omega
    have l1 : T.size ≤ 90 := by omega
    clear hlen hs9
    by_cases hdig : allDig T.data.toList = true
    · have HD := hide hdig
      clear hdig
      go_enter Tryz.func5, Tryz.ntmps5
      go_wp2_with fail
      refine (tspeaks_true _ E.out).mono ?_
      rintro e w1 ⟨rfl, bx⟩
      replace E := hide (E.out.step bx)
      replace B := hide (Below.step B.out B.out.size bx)
      clear bx
      go_wp2_with fail
      go_loop [7] (fun iv => ∃ k : Nat, k ≤ T.size ∧ iv = .int .i64 (k : Int)) (fun iv => T.size - (intOf iv).toNat)
      case atStart => exact ⟨0, Nat.zero_le _, rfl⟩
      case round =>
        obtain ⟨k, hk, rfl⟩ := hrel
        by_cases hlt : k < T.size
        · have hy := (allDig_mem HD.out (b := T[k]) (by have h1 : T[k] = T.data.toList[k]'(by rw [← bsize]; exact hlt) := rfl; rw [h1]; exact List.getElem_mem _))
          obtain ⟨y, hyy⟩ : ∃ y, (T[k]).toNat = y := ⟨_, rfl⟩
          rw [hyy] at hy
          have q1 : decide ((y : Int) < 48) = false := decide_eq_false (by omega)
          have q2 : decide ((57 : Int) < (y : Int)) = false := decide_eq_false (by omega)
          obtain ⟨hy1, hy2⟩ := hy
          go_wp2_with fail
          go_round
          case rel => exact ⟨k + 1, by omega, by go_num⟩
          case measure => simp [intOf]; omega
        · have hkn : k = T.size := by omega
          subst hkn
          clear hk hlt
          obtain ⟨p, hp, hp2⟩ := pick_at ai ((T.size : Int) - 1) (by omega) (by omega)
          obtain ⟨n, hn, hn2⟩ := pick_at xi 9 (by omega) (by omega)
          obtain ⟨kk, hkk⟩ : ∃ kk : Nat, kk = p + 1 := ⟨_, rfl⟩
          obtain ⟨J, hJ⟩ : ∃ J : Nat, J = T.size - kk := ⟨_, rfl⟩
          have e1 : (1 : Int) + (p : Int) = (kk : Int) := by omega
          have e2 : (T.size : Int) - (kk : Int) = (J : Int) := by omega
          have HK := hide (show 1 ≤ kk ∧ kk < T.size ∧ J + kk = T.size by omega)
          have HN := hide (show n < 9 by omega)
          have b1 : kk ≤ 90 := by omega
          have b2 : J ≤ 90 := by omega
          have b3 : n ≤ 9 := by omega
          clear hkk hJ hp2 hn2
          go_wp2_with fail
          go_loop [10, 11] (fun sv iv => ∃ (j : Nat) (Z : ByteArray), j ≤ J ∧ sv = .string Z ∧ iv = .int .i64 (j : Int) ∧ Hid (Z.data.toList = List.replicate j 48)) (fun _ iv => J - (intOf iv).toNat)
          case atStart => exact ⟨0, _, Nat.zero_le _, rfl, rfl, rfl⟩
          case round =>
            obtain ⟨j, Z, hj, rfl, rfl, hZ⟩ := hrel
            by_cases hlt : j < J
            · have hz : Z.size ≤ 90 := by rw [bsize, hZ.out, List.length_replicate]; omega
              have HZ := hide (cat_rep hZ.out)
              clear hZ
              go_wp2_with fail
              go_round
              case rel => exact ⟨j + 1, _, by omega, rfl, by go_num, HZ⟩
              case measure => simp [intOf]; omega
            · have hjJ : j = J := by omega
              subst hjJ
              clear hj hlt
              have hz : Z.size ≤ 90 := by rw [bsize, hZ.out, List.length_replicate]; omega
              go_wp2_with fail
              go_loop [12, 13] (fun sv iv => ∃ (j : Nat) (Y : ByteArray), j ≤ n ∧ sv = .string Y ∧ iv = .int .i64 (j : Int) ∧ Hid (Y.data.toList = List.replicate j 48)) (fun _ iv => n - (intOf iv).toNat)
              case atStart => exact ⟨0, _, Nat.zero_le _, rfl, rfl, rfl⟩
              case round =>
                obtain ⟨i, Y, hi, rfl, rfl, hY⟩ := hrel
                by_cases hlt : i < n
                · have hy : Y.size ≤ 90 := by rw [bsize, hY.out, List.length_replicate]; omega
                  have HY := hide (cat_rep hY.out)
                  clear hY
                  go_wp2_with fail
                  go_round
                  case rel => exact ⟨i + 1, _, by omega, rfl, by go_num, HY⟩
                  case measure => simp [intOf]; omega
                · have hin : i = n := by omega
                  subst hin
                  clear hi hlt
                  have hy : Y.size ≤ 90 := by rw [bsize, hY.out, List.length_replicate]; omega
                  have b4 : kk ≤ T.size := by have := HK.out; omega
                  have b5 : (T.extract 0 kk).size ≤ 90 := by rw [bsize, ext_take, List.length_take, ← bsize]; omega
                  have b6 : (T.extract kk T.size).size ≤ 90 := by rw [bsize, ext_drop, List.length_drop, ← bsize]; omega
                  have L1 := hide (show (T.extract 0 kk ++ ⟨#[46]⟩ ++ T.extract kk T.size).data.toList = T.data.toList.take kk ++ 46 :: T.data.toList.drop kk by
                    rw [cat_list, cat_list, ext_take, ext_drop, List.append_assoc]; rfl)
                  have m1 : min kk T.size = kk := by omega
                  have m2 : (kk : Int) ≤ 8388608 := by omega
                  have m3 : (kk : Int) + 1 ≤ 8388608 := by omega
                  have m4 : T.size - kk = j := by have := HK.out; omega
                  have m5 : (j : Int) ≤ 8388608 := by omega
                  have m6 : ¬ (9223372036854775807 < kk + 1) := by omega
                  have m7 : ¬ (9223372036854775807 < kk + 1 + j) := by omega
                  go_wp2_with fail
                  have L2 := hide (show (T ++ ⟨#[47, 49]⟩ ++ Z).data.toList = T.data.toList ++ 47 :: 49 :: List.replicate j 48 by rw [cat_list, cat_list, hZ.out, List.append_assoc]; rfl)
                  have HKJ := hide (show T.size - kk = j by have := HK.out; omega)
                  have PS := hide (fun W hE => ps_point (w := W) HD.out HK.out.1 HK.out.2.1 l1 L1.out hE)
                  rw [HKJ.out] at PS
                  have bx := Below.drew (Below.refl w1.heap.size w1)
                  replace E := hide (E.out.step bx)
                  replace B := hide (Below.step B.out B.out.size bx)
                  clear bx
                  refine wp_region_held_drew (S := fun W => Below w1.drew.heap.size w1.drew W) (by kernel_rfl) (Below.refl _ _) (fun hHeld => ?_)
                  refine wpAnyH_with 2 #[true, true, true, true, true, true, true, true, true, true, true, true, true, false, false] (fun a W => ∃ (sa : Bool) (Aa : Option Addr) (na ca : Nat) (Da : Option Addr) (ma da : Nat) (g0 : Nat), a = ⟨#[.string T, .int .i64 ai, .int .i64 xi, undef, undef, undef, u6, .int .i64 (T.size : Int), .int .i64 (kk : Int), .int .i64 (i : Int), .string Z, .int .i64 (j : Int), .string Y, .int .i64 (i : Int), .pointer (some ⟨g0, 0, none⟩), undef, undef, undef, undef, undef, undef, undef, .bool true, .bool false, .string T, .int .i64 (T.size : Int), .bool false, .bool false, .string T, .int .i64 (T.size : Int), .bool false, .bool false, .int .i64 (T.size : Int), .string T, .int .i64 (T.size : Int), .bool false, u36, u37, u38, u39, u40, u41, u42, u43, u44, u45, u46, u47, .int .i64 ai, .int .i64 (bits BinOp.and IntKind.i64 ai 1023), .string T, .int .i64 (T.size : Int), .int .i64 ((T.size : Int) - 1), .int .i64 (p : Int), .int .i64 (kk : Int), .int .i64 xi, .int .i64 (bits BinOp.and IntKind.i64 xi 1023), .int .i64 (i : Int), .int .i64 (j : Int), .string T, .int .i64 (T.size : Int), .int .i64 (kk : Int), .int .i64 (j : Int), .bool false, u64, u65, u66, u67, .int .i64 (i : Int), .int .i64 (i : Int), .bool false, u71, u72, u73, u74, .tuple #[rv sa (.slice Aa na ca) (.slice Da ma da), .int .i64 0], .string T, .int .i64 (kk : Int), .string (T.extract 0 kk), .string (T.extract 0 kk ++ ⟨#[46]⟩), .string T, .int .i64 (kk : Int), .string (T.extract kk T.size), .string ((T.extract 0 kk ++ ⟨#[46]⟩) ++ T.extract kk T.size), .tuple #[rv sa (.slice Aa na ca) (.slice Da ma da), .int .i64 0], rv sa (.slice Aa na ca) (.slice Da ma da), .int .i64 0, undef, undef, undef, undef, undef, undef, undef, undef, undef, undef, undef, undef, undef, undef, undef, undef, undef, undef, undef, undef, undef, undef, undef, undef, undef, undef, undef, undef, undef, undef, undef, undef, undef, undef, undef, undef, undef, undef, undef, undef, undef, undef, undef, undef, undef, undef, undef, undef, undef, undef, undef, undef, undef], []⟩ ∧ Sg w1.drew.heap.size w1.drew W [rblk] [some g0] (fun W => (True ∧ Rc W (rv sa (.slice Aa na ca) (.slice Da ma da)) (ptq T.data.toList j) 600))) ?_ (fun Hs11 => ?_)
                  · rintro a W ⟨sa, Aa, na, ca, Da, ma, da, g0, rfl, st0⟩
                    have hHeld := st0.1
                    have st := hide st0
                    clear st0
                    obtain ⟨k0, f0⟩ := Sg.cells st.out 0 g0 #[.bool false, .slice none 0 0, .slice none 0 0] 26 rfl rfl 0
                    obtain ⟨k1, f1⟩ := Sg.cells st.out 0 g0 #[.bool false, .slice none 0 0, .slice none 0 0] 26 rfl rfl 1
                    obtain ⟨k2, f2⟩ := Sg.cells st.out 0 g0 #[.bool false, .slice none 0 0, .slice none 0 0] 26 rfl rfl 2
                    simp only [List.getElem?_toArray, List.getElem?_cons_zero, List.getElem?_cons_succ] at k0
                    simp only [List.getElem?_toArray, List.getElem?_cons_zero, List.getElem?_cons_succ] at k1
                    simp only [List.getElem?_toArray, List.getElem?_cons_zero, List.getElem?_cons_succ] at k2
                    have st9 := st.out
                    have st9 := Sg.put st9 (Firm2.and Firm2.yes (Firm2.rc _ _ _)) 0 g0 0 _ 26 (.bool sa) rfl rfl rfl
                    have st9 := Sg.put st9 (Firm2.and Firm2.yes (Firm2.rc _ _ _)) 0 g0 1 _ 26 (.slice Aa na ca) rfl rfl rfl
                    have st9 := Sg.put st9 (Firm2.and Firm2.yes (Firm2.rc _ _ _)) 0 g0 2 _ 26 (.slice Da ma da) rfl rfl rfl
                    have st8 := hide st9
                    clear st9
                    refine wpAnyH_ready (rs := [13]) (by kernel_rfl) (by simp) ?_
                    refine AllReadyH.cons rfl (fun K hK => ?_) ?_
                    rotate_left
                    · exact AllReadyH.nil
                    go_simp
                    refine hK.out _ _ st8.out.1 (fun hHeld => ?_)
                    clear hK K k0 f0 k1 f1 k2 f2 st
                    (try simp only [Act.put, List.setIfInBounds_toArray, List.set_cons_zero, List.set_cons_succ])
                    generalize (((W.setCell ⟨g0, 0, none⟩ _).setCell ⟨g0, 1, none⟩ _).setCell ⟨g0, 2, none⟩ _) = W5 at *
                    have st := st8
                    clear st8
                    refine wpAnyH_take (i := 14) (v := ?_) rfl (by kernel_rfl) (by kernel_rfl) (by kernel_rfl) (fun _ _ _ h => h) (Or.inl ⟨?_, ?_⟩) (by assumption) ?_
                    rotate_left
                    · rfl
                    · (intro w hSw; go_simp; try (with_reducible rfl); try omega)
                    (try simp only [Act.put, List.setIfInBounds_toArray, List.set_cons_zero, List.set_cons_succ])
                    refine wpAnyH_done (by kernel_rfl) ?_ _
                    clear hHeld
                    have s9 := st.out
                    have Ra := hide s9.2.2.1.2
                    have Ka := hide (show Rk W5 g0 sa (.slice Aa na ca) (.slice Da ma da) from (s9.2.2.2.1 0 g0 _ rfl rfl).1)
                    replace E := hide (E.out.step s9.1)
                    replace B := hide (Below.step B.out B.out.size s9.1)
                    clear s9 st PS
                    generalize W5 = w5 at *
                    go_wp2_with fail
                    obtain ⟨ch, hch⟩ : ∃ ch : UInt8, ch.toNat = 48 + i := ⟨UInt8.ofNat (i + 48), by rw [u8_digit i (by have := HN.out; omega)]; omega⟩
                    refine (ps_over HD.out (Nat.le_trans (by omega) l0) l1 b2 L2.out E.out).mono ?_
                    rintro e w6 ⟨vb, rfl, rc, bx⟩
                    obtain ⟨sb, Ab, nb, cb, Db, mb, db, rfl, -⟩ := rc.parts
                    have b9 := wbox w6 sb (.slice Ab nb cb) (.slice Db mb db)
                    have bb := Below.step1 bx b9
                    replace Ra := hide (Ra.out.step bb)
                    replace Ka := hide (Ka.out.step bb)
                    replace E := hide (E.out.step bb)
                    replace B := hide (Below.step B.out B.out.size bb)
                    have Rb := hide (rc.step b9)
                    have Kb := hide (Rk.new w6 sb (.slice Ab nb cb) (.slice Db mb db))
                    clear bx b9 bb rc
                    have CV := conv_one w6 sb (.slice Ab nb cb) (.slice Db mb db) hch HN.out
                    go_wp2_with fail
                    clear CV
                    have b8 : Below (w6.alloc (rbox sb (.slice Ab nb cb) (.slice Db mb db))).heap.size (w6.alloc (rbox sb (.slice Ab nb cb) (.slice Db mb db))) ((w6.alloc (rbox sb (.slice Ab nb cb) (.slice Db mb db))).alloc (.cells #[.int .u8 (48 + (i : Int))] 5)) := (Below.refl _ _).alloc (Nat.le_refl _) _
                    replace Ra := hide (Ra.out.step b8)
                    replace Ka := hide (Ka.out.step b8)
                    replace E := hide (E.out.step b8)
                    replace Rb := hide (Rb.out.step b8)
                    replace Kb := hide (Kb.out.step b8)
                    replace B := hide (Below.step B.out B.out.size b8)
                    clear b8
                    have L3 := hide (show (⟨#[45]⟩ ++ T ++ ⟨#[101]⟩ ++ ⟨#[ch]⟩ : ByteArray).data.toList = 45 :: (T.data.toList ++ [101, ch]) by rw [cat_list, cat_list, cat_list, List.append_assoc]; rfl)
                    have HC := hide hch
                    clear hch
                    refine (ps_exp (n := i) HD.out (Nat.le_trans (by omega) l0) l1 HN.out HC.out L3.out E.out).mono ?_
                    rintro e w7 ⟨vc, rfl, rc, bx⟩
                    obtain ⟨sc, Ac, nc, cc, Dc, mc, dc, rfl, -⟩ := rc.parts
                    have b9 := wbox w7 sc (.slice Ac nc cc) (.slice Dc mc dc)
                    have bb := Below.step1 bx b9
                    replace Ra := hide (Ra.out.step bb)
                    replace Ka := hide (Ka.out.step bb)
                    replace E := hide (E.out.step bb)
                    replace Rb := hide (Rb.out.step bb)
                    replace Kb := hide (Kb.out.step bb)
                    replace B := hide (Below.step B.out B.out.size bb)
                    have Rcc := hide (rc.step b9)
                    have Kc := hide (Rk.new w7 sc (.slice Ac nc cc) (.slice Dc mc dc))
                    clear bx b9 bb rc
                    go_wp2_with fail
                    have L4 := hide (show (⟨#[45]⟩ ++ T ++ Y : ByteArray).data.toList = 45 :: (T.data.toList ++ List.replicate i 48) by rw [cat_list, cat_list, hY.out, List.append_assoc]; rfl)
                    refine (ps_zeros (n := i) HD.out (Nat.le_trans (by omega) l0) l1 HN.out L4.out E.out).mono ?_
                    rintro e w8 ⟨vd, rfl, rc, bx⟩
                    obtain ⟨sd, Ad, nd, cd, Dd, md, dd, rfl, -⟩ := rc.parts
                    have b9 := wbox w8 sd (.slice Ad nd cd) (.slice Dd md dd)
                    have bb := Below.step1 bx b9
                    replace Ra := hide (Ra.out.step bb)
                    replace Ka := hide (Ka.out.step bb)
                    replace Rb := hide (Rb.out.step bb)
                    replace Kb := hide (Kb.out.step bb)
                    replace Rcc := hide (Rcc.out.step bb)
                    replace Kc := hide (Kc.out.step bb)
                    replace B := hide (Below.step B.out B.out.size bb)
                    have Rd := hide (rc.step b9)
                    have Kd := hide (Rk.new w8 sd (.slice Ad nd cd) (.slice Dd md dd))
                    clear bx b9 bb rc
                    obtain ⟨p0, p1, p2, -, -, -⟩ := Ka.out.all
                    obtain ⟨q0, q1, q2, -, -, -⟩ := Kb.out.all
                    go_wp2_with fail
                    refine (rsame_c Ra.out Rb.out).mono ?_
                    rintro e w9 ⟨rfl, bx⟩
                    replace Rcc := hide (Rcc.out.step bx)
                    replace Kc := hide (Kc.out.step bx)
                    replace Rd := hide (Rd.out.step bx)
                    replace Kd := hide (Kd.out.step bx)
                    replace B := hide (Below.step B.out B.out.size bx)
                    clear bx p0 p1 p2 q0 q1 q2
                    obtain ⟨p0, p1, p2, -, -, -⟩ := Kc.out.all
                    obtain ⟨q0, q1, q2, -, -, -⟩ := Kd.out.all
                    go_wp2_with fail
                    refine (rsame_c Rcc.out Rd.out).mono ?_
                    rintro e w10 ⟨rfl, bx⟩
                    replace B := hide (Below.step B.out B.out.size bx)
                    clear bx p0 p1 p2 q0 q1 q2
                    go_wp2_with fail
                    go_ret
                    exact ⟨rfl, B.out⟩
                  refine wpAnyH_with 3 #[true, true, true, true, true, true, true, true, true, true, true, true, false, false, false] (fun a W => ∃ (sa : Bool) (Aa : Option Addr) (na ca : Nat) (Da : Option Addr) (ma da : Nat), a = ⟨#[.string T, .int .i64 ai, .int .i64 xi, undef, undef, undef, u6, .int .i64 (T.size : Int), .int .i64 (kk : Int), .int .i64 (i : Int), .string Z, .int .i64 (j : Int), .string Y, .int .i64 (i : Int), undef, undef, undef, undef, undef, undef, undef, undef, .bool true, .bool false, .string T, .int .i64 (T.size : Int), .bool false, .bool false, .string T, .int .i64 (T.size : Int), .bool false, .bool false, .int .i64 (T.size : Int), .string T, .int .i64 (T.size : Int), .bool false, u36, u37, u38, u39, u40, u41, u42, u43, u44, u45, u46, u47, .int .i64 ai, .int .i64 (bits BinOp.and IntKind.i64 ai 1023), .string T, .int .i64 (T.size : Int), .int .i64 ((T.size : Int) - 1), .int .i64 (p : Int), .int .i64 (kk : Int), .int .i64 xi, .int .i64 (bits BinOp.and IntKind.i64 xi 1023), .int .i64 (i : Int), .int .i64 (j : Int), .string T, .int .i64 (T.size : Int), .int .i64 (kk : Int), .int .i64 (j : Int), .bool false, u64, u65, u66, u67, .int .i64 (i : Int), .int .i64 (i : Int), .bool false, u71, u72, u73, u74, .tuple #[rv sa (.slice Aa na ca) (.slice Da ma da), .int .i64 0], .string T, .int .i64 (kk : Int), .string (T.extract 0 kk), .string (T.extract 0 kk ++ ⟨#[46]⟩), .string T, .int .i64 (kk : Int), .string (T.extract kk T.size), .string ((T.extract 0 kk ++ ⟨#[46]⟩) ++ T.extract kk T.size), .tuple #[rv sa (.slice Aa na ca) (.slice Da ma da), .int .i64 0], rv sa (.slice Aa na ca) (.slice Da ma da), .int .i64 0, undef, undef, undef, undef, undef, undef, undef, undef, undef, undef, undef, undef, undef, undef, undef, undef, undef, undef, undef, undef, undef, undef, undef, undef, undef, undef, undef, undef, undef, undef, undef, undef, undef, undef, undef, undef, undef, undef, undef, undef, undef, undef, undef, undef, undef, undef, undef, undef, undef, undef, undef, undef, undef], []⟩ ∧ Sg w1.drew.heap.size w1.drew W [rblk] [none] (fun W => (True ∧ Rc W (rv sa (.slice Aa na ca) (.slice Da ma da)) (ptq T.data.toList j) 600))) ?_ (fun Hs10 => ?_)
                  · rintro a W ⟨sa, Aa, na, ca, Da, ma, da, rfl, st0⟩
                    have hHeld := st0.1
                    have st := hide st0
                    clear st0
                    refine wpAnyH_ready (rs := [12]) (by kernel_rfl) (by simp) ?_
                    refine AllReadyH.cons rfl (fun K hK => ?_) ?_
                    · go_simp
                      have st2 := Sg.make st.out (Firm2.and Firm2.yes (Firm2.rc _ _ _)) 0 _ rfl (by simp)
                      refine hK.out _ _ st2.1 (fun hHeld => ?_)
                      (try simp only [Act.put, List.setIfInBounds_toArray, List.set_cons_zero, List.set_cons_succ])
                      exact Hs11.out _ _ ⟨sa, Aa, na, ca, Da, ma, da, W.heap.size, rfl, st2⟩
                    exact AllReadyH.nil
                  refine wpAnyH_with 6 #[true, true, true, true, true, true, true, true, false, false, false, false, true, false, false] (fun a W => ∃ (g0 : Nat), a = ⟨#[.string T, .int .i64 ai, .int .i64 xi, undef, undef, undef, u6, .int .i64 (T.size : Int), .int .i64 (kk : Int), .int .i64 (i : Int), .string Z, .int .i64 (j : Int), .string Y, .int .i64 (i : Int), .pointer (some ⟨g0, 0, none⟩), undef, undef, undef, undef, undef, undef, undef, .bool true, .bool false, .string T, .int .i64 (T.size : Int), .bool false, .bool false, .string T, .int .i64 (T.size : Int), .bool false, .bool false, .int .i64 (T.size : Int), .string T, .int .i64 (T.size : Int), .bool false, u36, u37, u38, u39, u40, u41, u42, u43, u44, u45, u46, u47, .int .i64 ai, .int .i64 (bits BinOp.and IntKind.i64 ai 1023), .string T, .int .i64 (T.size : Int), .int .i64 ((T.size : Int) - 1), .int .i64 (p : Int), .int .i64 (kk : Int), .int .i64 xi, .int .i64 (bits BinOp.and IntKind.i64 xi 1023), .int .i64 (i : Int), .int .i64 (j : Int), .string T, .int .i64 (T.size : Int), .int .i64 (kk : Int), .int .i64 (j : Int), .bool false, u64, u65, u66, u67, .int .i64 (i : Int), .int .i64 (i : Int), .bool false, u71, u72, u73, u74, undef, .string T, .int .i64 (kk : Int), .string (T.extract 0 kk), .string (T.extract 0 kk ++ ⟨#[46]⟩), .string T, .int .i64 (kk : Int), .string (T.extract kk T.size), .string ((T.extract 0 kk ++ ⟨#[46]⟩) ++ T.extract kk T.size), undef, undef, undef, undef, undef, undef, undef, undef, undef, undef, undef, undef, undef, undef, undef, undef, undef, undef, undef, undef, undef, undef, undef, undef, undef, undef, undef, undef, undef, undef, undef, undef, undef, undef, undef, undef, undef, undef, undef, undef, undef, undef, undef, undef, undef, undef, undef, undef, undef, undef, undef, undef, undef, undef, undef, undef], []⟩ ∧ Sg w1.drew.heap.size w1.drew W [rblk] [some g0] (fun W => True)) ?_ (fun Hs01 => ?_)
                  · rintro a W ⟨g0, rfl, st0⟩
                    have hHeld := st0.1
                    have st := hide st0
                    clear st0
                    refine wpAnyH_ready (rs := [8]) (by kernel_rfl) (by simp) ?_
                    refine AllReadyH.cons rfl (fun K hK => ?_) ?_
                    · go_simp
                      go_at_call 13
                      refine Calls.mono (PS.out _ (E.out.step st.out.1)) ?_
                      rintro e wx ⟨v9, rfl, hq, bx⟩
                      obtain ⟨sa, Aa, na, ca, Da, ma, da, rfl, tx⟩ := hq.parts
                      clear hq
                      try dsimp only
                      have st2 := Sg.call (G := fun W => Rc W (rv sa (.slice Aa na ca) (.slice Da ma da)) (ptq T.data.toList j) 600) st.out bx Firm2.yes tx
                      have hSt := hide st2
                      refine hK.out _ _ st2.1 (fun hHeld => ?_)
                      clear hK K st2
                      (try simp only [Act.put, List.setIfInBounds_toArray, List.set_cons_zero, List.set_cons_succ])
                      refine wpAnyH_take (i := 9) (v := ?_) rfl (by kernel_rfl) (by kernel_rfl) (by kernel_rfl) (fun _ _ _ h => h) (Or.inl ⟨?_, ?_⟩) (by assumption) ?_
                      rotate_left
                      · rfl
                      · (intro w hSw; go_simp; try (with_reducible rfl); try omega)
                      (try simp only [Act.put, List.setIfInBounds_toArray, List.set_cons_zero, List.set_cons_succ])
                      refine wpAnyH_take (i := 10) (v := ?_) rfl (by kernel_rfl) (by kernel_rfl) (by kernel_rfl) (fun _ _ _ h => h) (Or.inl ⟨?_, ?_⟩) (by assumption) ?_
                      rotate_left
                      · rfl
                      · (intro w hSw; go_simp; try (with_reducible rfl); try omega)
                      (try simp only [Act.put, List.setIfInBounds_toArray, List.set_cons_zero, List.set_cons_succ])
                      refine wpAnyH_take (i := 11) (v := ?_) rfl (by kernel_rfl) (by kernel_rfl) (by kernel_rfl) (fun _ _ _ h => h) (Or.inl ⟨?_, ?_⟩) (by assumption) ?_
                      rotate_left
                      · rfl
                      · (intro w hSw; go_simp; try (with_reducible rfl); try omega)
                      (try simp only [Act.put, List.setIfInBounds_toArray, List.set_cons_zero, List.set_cons_succ])
                      exact Hs11.out _ _ ⟨sa, Aa, na, ca, Da, ma, da, g0, rfl, hSt.out⟩
                    exact AllReadyH.nil
                  refine wpAnyH_take (i := 0) (v := ?_) rfl (by kernel_rfl) (by kernel_rfl) (by kernel_rfl) (fun _ _ _ h => h) (Or.inl ⟨?_, ?_⟩) (by assumption) ?_
                  rotate_left
                  · rfl
                  · (intro w hSw; go_simp; try (with_reducible rfl); try omega)
                  (try simp only [Act.put, List.setIfInBounds_toArray, List.set_cons_zero, List.set_cons_succ])
                  refine wpAnyH_take (i := 1) (v := ?_) rfl (by kernel_rfl) (by kernel_rfl) (by kernel_rfl) (fun _ _ _ h => h) (Or.inl ⟨?_, ?_⟩) (by assumption) ?_
                  rotate_left
                  · rfl
                  · (intro w hSw; go_simp; try (with_reducible rfl); try omega)
                  (try simp only [Act.put, List.setIfInBounds_toArray, List.set_cons_zero, List.set_cons_succ])
                  refine wpAnyH_take (i := 2) (v := ?_) rfl (by kernel_rfl) (by kernel_rfl) (by kernel_rfl) (fun _ _ _ h => h) (Or.inl ⟨?_, ?_⟩) (by assumption) ?_
                  rotate_left
                  · rfl
                  · (intro w hSw; go_simp; try (with_reducible rfl); try omega)
                  (try simp only [Act.put, List.setIfInBounds_toArray, List.set_cons_zero, List.set_cons_succ])
                  refine wpAnyH_take (i := 3) (v := ?_) rfl (by kernel_rfl) (by kernel_rfl) (by kernel_rfl) (fun _ _ _ h => h) (Or.inl ⟨?_, ?_⟩) (by assumption) ?_
                  rotate_left
                  · rfl
                  · (intro w hSw; go_simp; try (with_reducible rfl); try omega)
                  (try simp only [Act.put, List.setIfInBounds_toArray, List.set_cons_zero, List.set_cons_succ])
                  refine wpAnyH_take (i := 4) (v := ?_) rfl (by kernel_rfl) (by kernel_rfl) (by kernel_rfl) (fun _ _ _ h => h) (Or.inl ⟨?_, ?_⟩) (by assumption) ?_
                  rotate_left
                  · rfl
                  · (intro w hSw; go_simp; try (with_reducible rfl); try omega)
                  (try simp only [Act.put, List.setIfInBounds_toArray, List.set_cons_zero, List.set_cons_succ])
                  refine wpAnyH_take (i := 5) (v := ?_) rfl (by kernel_rfl) (by kernel_rfl) (by kernel_rfl) (fun _ _ _ h => h) (Or.inl ⟨?_, ?_⟩) (by assumption) ?_
                  rotate_left
                  · rfl
                  · (intro w hSw; go_simp; try (with_reducible rfl); try omega)
                  (try simp only [Act.put, List.setIfInBounds_toArray, List.set_cons_zero, List.set_cons_succ])
                  refine wpAnyH_take (i := 6) (v := ?_) rfl (by kernel_rfl) (by kernel_rfl) (by kernel_rfl) (fun _ _ _ h => h) (Or.inl ⟨?_, ?_⟩) (by assumption) ?_
                  rotate_left
                  · rfl
                  · (intro w hSw; go_simp; try (with_reducible rfl); try omega)
                  (try simp only [Act.put, List.setIfInBounds_toArray, List.set_cons_zero, List.set_cons_succ])
                  refine wpAnyH_take (i := 7) (v := ?_) rfl (by kernel_rfl) (by kernel_rfl) (by kernel_rfl) (fun _ _ _ h => h) (Or.inl ⟨?_, ?_⟩) (by assumption) ?_
                  rotate_left
                  · rfl
                  · (intro w hSw; go_simp; try (with_reducible rfl); try omega)
                  (try simp only [Act.put, List.setIfInBounds_toArray, List.set_cons_zero, List.set_cons_succ])
                  refine wpAnyH_with 7 #[true, true, true, true, true, true, true, true, false, false, false, false, false, false, false] (fun a W => a = ⟨#[.string T, .int .i64 ai, .int .i64 xi, undef, undef, undef, u6, .int .i64 (T.size : Int), .int .i64 (kk : Int), .int .i64 (i : Int), .string Z, .int .i64 (j : Int), .string Y, .int .i64 (i : Int), undef, undef, undef, undef, undef, undef, undef, undef, .bool true, .bool false, .string T, .int .i64 (T.size : Int), .bool false, .bool false, .string T, .int .i64 (T.size : Int), .bool false, .bool false, .int .i64 (T.size : Int), .string T, .int .i64 (T.size : Int), .bool false, u36, u37, u38, u39, u40, u41, u42, u43, u44, u45, u46, u47, .int .i64 ai, .int .i64 (bits BinOp.and IntKind.i64 ai 1023), .string T, .int .i64 (T.size : Int), .int .i64 ((T.size : Int) - 1), .int .i64 (p : Int), .int .i64 (kk : Int), .int .i64 xi, .int .i64 (bits BinOp.and IntKind.i64 xi 1023), .int .i64 (i : Int), .int .i64 (j : Int), .string T, .int .i64 (T.size : Int), .int .i64 (kk : Int), .int .i64 (j : Int), .bool false, u64, u65, u66, u67, .int .i64 (i : Int), .int .i64 (i : Int), .bool false, u71, u72, u73, u74, undef, .string T, .int .i64 (kk : Int), .string (T.extract 0 kk), .string (T.extract 0 kk ++ ⟨#[46]⟩), .string T, .int .i64 (kk : Int), .string (T.extract kk T.size), .string ((T.extract 0 kk ++ ⟨#[46]⟩) ++ T.extract kk T.size), undef, undef, undef, undef, undef, undef, undef, undef, undef, undef, undef, undef, undef, undef, undef, undef, undef, undef, undef, undef, undef, undef, undef, undef, undef, undef, undef, undef, undef, undef, undef, undef, undef, undef, undef, undef, undef, undef, undef, undef, undef, undef, undef, undef, undef, undef, undef, undef, undef, undef, undef, undef, undef, undef, undef, undef], []⟩ ∧ Sg w1.drew.heap.size w1.drew W [rblk] [none] (fun W => True)) ?_ (fun Hs => Hs.out _ _ ⟨rfl, Sg.start _ _ 1⟩)
                  rintro a W ⟨rfl, st0⟩
                  have hHeld := st0.1
                  have st := hide st0
                  clear st0
                  refine wpAnyH_ready (rs := [8, 12]) (by kernel_rfl) (by simp) ?_
                  refine AllReadyH.cons rfl (fun K hK => ?_) ?_
                  · go_simp
                    go_at_call 13
                    refine Calls.mono (PS.out _ (E.out.step st.out.1)) ?_
                    rintro e wx ⟨v9, rfl, hq, bx⟩
                    obtain ⟨sa, Aa, na, ca, Da, ma, da, rfl, tx⟩ := hq.parts
                    clear hq
                    try dsimp only
                    have st2 := Sg.call (G := fun W => Rc W (rv sa (.slice Aa na ca) (.slice Da ma da)) (ptq T.data.toList j) 600) st.out bx Firm2.yes tx
                    have hSt := hide st2
                    refine hK.out _ _ st2.1 (fun hHeld => ?_)
                    clear hK K st2
                    (try simp only [Act.put, List.setIfInBounds_toArray, List.set_cons_zero, List.set_cons_succ])
                    refine wpAnyH_take (i := 9) (v := ?_) rfl (by kernel_rfl) (by kernel_rfl) (by kernel_rfl) (fun _ _ _ h => h) (Or.inl ⟨?_, ?_⟩) (by assumption) ?_
                    rotate_left
                    · rfl
                    · (intro w hSw; go_simp; try (with_reducible rfl); try omega)
                    (try simp only [Act.put, List.setIfInBounds_toArray, List.set_cons_zero, List.set_cons_succ])
                    refine wpAnyH_take (i := 10) (v := ?_) rfl (by kernel_rfl) (by kernel_rfl) (by kernel_rfl) (fun _ _ _ h => h) (Or.inl ⟨?_, ?_⟩) (by assumption) ?_
                    rotate_left
                    · rfl
                    · (intro w hSw; go_simp; try (with_reducible rfl); try omega)
                    (try simp only [Act.put, List.setIfInBounds_toArray, List.set_cons_zero, List.set_cons_succ])
                    refine wpAnyH_take (i := 11) (v := ?_) rfl (by kernel_rfl) (by kernel_rfl) (by kernel_rfl) (fun _ _ _ h => h) (Or.inl ⟨?_, ?_⟩) (by assumption) ?_
                    rotate_left
                    · rfl
                    · (intro w hSw; go_simp; try (with_reducible rfl); try omega)
                    (try simp only [Act.put, List.setIfInBounds_toArray, List.set_cons_zero, List.set_cons_succ])
                    exact Hs10.out _ _ ⟨sa, Aa, na, ca, Da, ma, da, rfl, hSt.out⟩
                  refine AllReadyH.cons rfl (fun K hK => ?_) ?_
                  · go_simp
                    have st2 := Sg.make st.out Firm2.yes 0 _ rfl (by simp)
                    refine hK.out _ _ st2.1 (fun hHeld => ?_)
                    (try simp only [Act.put, List.setIfInBounds_toArray, List.set_cons_zero, List.set_cons_succ])
                    exact Hs01.out _ _ ⟨W.heap.size, rfl, st2⟩
                  exact AllReadyH.nil
    · exact rpoints_bad w T ai xi l0 l1 E.out (by simpa using hdig)
end Go.Proofs.YtajjpepjbflojaaGreatDoor
