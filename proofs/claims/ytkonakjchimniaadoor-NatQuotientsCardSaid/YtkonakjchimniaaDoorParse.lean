/-
  nat.Parse: decimal digits read.
-/
import Derived.Test.YtkonakjchimniaaDoorGcd1
import Derived.Lib.SlTrimSet
namespace Go.Proofs.YtkonakjchimniaaDoor
open Go.RowKit Go.Proofs.YtkonakjchimniaaDoor.Num
set_option linter.unusedVariables false
set_option maxRecDepth 100000

theorem mul64_10 (x : Nat) (hx : x < Q) (w : World) :
    Calls Tryd.prog 94 #[.int .u64 (x : Int), .int .u64 10] w fun e w' => e = .returned (.tuple #[.int .u64 ((mulHi x 10 : Nat) : Int), .int .u64 ((mulLo x 10 : Nat) : Int)]) ∧ w = w' := mul64 x 10 hx (by unfold Q; omega) w

theorem ad_step {k v ov : Nat} {us zs : List Nat} {d : Nat} (hu : us.length = k) (hz : zs.getD k 0 = v)
    (h : vl Q us + Q ^ k * ov = vl Q (zs.take k) * 10 + d) :
    vl Q (us ++ [addLo (mulLo v 10) ov 0]) + Q ^ (k + 1) * (mulHi v 10 + addCy (mulLo v 10) ov 0) = vl Q (zs.take (k + 1)) * 10 + d := by
  rw [vl_snoc, hu, take_next zs k v hz, Nat.pow_succ]
  have e1 := mul_spec v 10
  have e2 := add_spec (mulLo v 10) ov 0
  generalize addLo (mulLo v 10) ov 0 = l1 at *
  generalize addCy (mulLo v 10) ov 0 = c1 at *
  generalize mulHi v 10 = hi at *
  generalize mulLo v 10 = lo at *
  have key : l1 + Q * (hi + c1) = ov + v * 10 := by rw [Nat.mul_add]; omega
  have e4 : Q ^ k * l1 + Q ^ k * Q * (hi + c1) = Q ^ k * ov + Q ^ k * v * 10 := by
    rw [Nat.mul_assoc, ← Nat.mul_add, key, Nat.mul_add, Nat.mul_assoc]
  rw [Nat.add_mul]
  omega
theorem ad_bound {v ov : Nat} (hv : v < Q) (ho : ov < 10) : mulHi v 10 + addCy (mulLo v 10) ov 0 < 10 := by
  have e1 := mul_spec v 10
  have e2 := add_spec (mulLo v 10) ov 0
  have key : Q * (mulHi v 10 + addCy (mulLo v 10) ov 0) ≤ v * 10 + ov := by rw [Nat.mul_add]; omega
  have h2 : v * 10 + ov < Q * 10 := by omega
  exact Nat.lt_of_mul_lt_mul_left (Nat.lt_of_le_of_lt key h2)

/-- A list whose number has its length is in the one form. -/
theorem canon_ge {us : List Nat} (du : Dg Q us) (h : us.length = 0 ∨ Q ^ (us.length - 1) ≤ vl Q us) : cn Q (vl Q us) = us := by
  rw [cn_vl Q_two du]
  rcases h with h | h
  · rw [List.eq_nil_of_length_eq_zero h]; rfl
  · rcases Nat.lt_or_ge (tz us).length us.length with hl | hl
    · have h1 := vl_lt (tz_dg du)
      rw [tz_vl] at h1
      have h2 : Q ^ (tz us).length ≤ Q ^ (us.length - 1) := Nat.pow_le_pow_right Q_pos (by omega)
      omega
    · rw [tz_take, List.take_of_length_le hl]

def AdRel (w : World) (g n d : Nat) (C : Array Value) (zs : List Nat) (cv iv : Value) (wr : World) : Prop :=
  ∃ (k ov : Nat) (us : List Nat), k ≤ n ∧ iv = .int .i64 (k : Int) ∧ cv = .int .u64 (ov : Int) ∧ ov < 10 ∧ us.length = k ∧ Dg Q us ∧
    Hid (vl Q us + Q ^ k * ov = vl Q (zs.take k) * 10 + d) ∧ Row .u64 71 wr g 0 C (us ++ zs.drop k) ∧ w.grownBy wr (some g)

/-- What a step of reading leaves. -/
def AdRet (t : TypeId) (w : World) (B S : Nat) (e : Ending) (w' : World) : Prop := ∃ v, e = .returned v ∧ Own .u64 t w' B v (cn Q S) ∧ Below B w w'

set_option maxHeartbeats 2000000 in
theorem appendDigit_row (B g n c d : Nat) (C : Array Value) (zs : List Nat) (w : World) (hr : Row .u64 71 w g 0 C zs) (hzn : zs.length = n) (dz : Dg Q zs) (hcan : cn Q (vl Q zs) = zs) (hd : d < 10)
    (hB : B ≤ g) (hBw : B ≤ w.heap.size) (hC : C.size = c) (hcm : c ≤ maxLen) (hn : n ≤ 17592186044000) :
    Calls Tryd.prog 80 #[.slice (some ⟨g, 0, none⟩) n c, .int .u64 (d : Int)] w (AdRet 71 w B (vl Q zs * 10 + d)) := by
  have e0 : AdRel w g n d C zs (.int .u64 (d : Int)) (.int .i64 0) w := ⟨0, d, [], by omega, rfl, rfl, hd, rfl, Dg.nil, hide (by simp [vl]), by simpa using hr, only_refl _ _⟩
  have Hz := hide hzn
  have Hcan := hide hcan
  obtain ⟨i0, hi, hz0, hz1, hz2⟩ := info_parts info_u64
  clear hzn hcan
  have hlow : Hid (n = 0 ∨ Q ^ (n - 1) ≤ vl Q zs) := hide (by
    rcases Nat.eq_zero_or_pos n with h | h
    · exact .inl h
    · right
      have := pos_of_tz (ys := zs) (by rw [← cn_vl Q_two dz]; exact Hcan.out) (by rw [Hz.out]; exact h) dz
      rwa [Hz.out] at this)
  go_enter Tryd.func80, Tryd.ntmps80
  go_wp2_with fail
  go_loopw [5, 14] (fun cv iv wr => AdRel w g n d C zs cv iv wr) (fun _ iv _ => n - (intOf iv).toNat)
  case atStart => exact e0
  case round =>
    obtain ⟨k, ov, us, hk, rfl, rfl, hov, hu, du, hv, hrow, hg⟩ := hrel
    clear e0
    by_cases hlt : k < n
    · have hkz : k < zs.length := by rw [Hz.out]; exact hlt
      obtain ⟨v, ev⟩ : ∃ v, Hid (zs.getD k 0 = v) := ⟨_, hide rfl⟩
      have hll : k < (us ++ zs.drop k).length := by simp; omega
      have hcell := hrow.cell hll
      rw [drop_getD us zs hu, ev.out, Nat.zero_add] at hcell
      have hfr := hrow.frozen k
      have bv : v < Q := by rw [← ev.out]; exact dz.getD Q_pos k
      have hst := hrow.set_ hll (addLo (mulLo v 10) ov 0)
      rw [drop_set us zs hu hkz, Nat.zero_add] at hst
      have hv2 := hide (ad_step hu ev.out hv.out)
      have hbd := ad_bound bv hov
      have hg2 := only_set (p := ⟨g, k, none⟩) hg rfl (.int .u64 ((addLo (mulLo v 10) ov 0 : Nat) : Int))
      have fin : AdRel w g n d C zs (.int .u64 ((mulHi v 10 + addCy (mulLo v 10) ov 0 : Nat) : Int)) (.int .i64 ((k + 1 : Nat) : Int)) (wr.setCell ⟨g, k, none⟩ (.int .u64 ((addLo (mulLo v 10) ov 0 : Nat) : Int))) :=
        ⟨k + 1, _, _, by omega, rfl, rfl, hbd, by simp [hu], du.append (Dg.cons (addLo_lt _ _ _) Dg.nil), hv2, hst, hg2⟩
      have hm := mul64_10 v bv wr
      have a1 := add64_0 (mulLo v 10) ov
      generalize addLo (mulLo v 10) ov 0 = l1 at *
      generalize addCy (mulLo v 10) ov 0 = c1 at *
      generalize mulLo v 10 = lo at *
      generalize mulHi v 10 = hi' at *
      have b1 : (hi' : Int) + (c1 : Int) ≤ 18446744073709551615 := by omega
      clear hst hv2 hg2 hbd hu du hv hrow hg hll hkz bv dz hr Hz Hcan hlow hov ev
      go_wp2_with (go_at_call 94; refine hm.mono ?_; rintro e w' ⟨rfl, rfl⟩)
      go_roundw
      case rel => exact fin
      case measure => simp [intOf]; omega
    · obtain rfl : k = n := by omega
      have e := hv.out
      rw [List.take_of_length_le (by rw [Hz.out]; exact Nat.le_refl _)] at e
      rw [List.drop_eq_nil_of_le (by rw [Hz.out]; exact Nat.le_refl _), List.append_nil] at hrow
      have hbel : Below B w wr := below_only (Below.refl _ _) hg hBw hB
      have hown := Own.of_row hrow hB hC hcm
      rw [hu] at hown
      by_cases h0 : ov = 0
      · subst h0
        rw [Nat.mul_zero, Nat.add_zero] at e
        have fin : AdRet 71 w B (vl Q zs * 10 + d) (.returned (.slice (some ⟨g, 0, none⟩) k c)) wr := by
          refine ⟨_, rfl, ?_, hbel⟩
          rw [← e, canon_ge du (by rw [hu, e]; rcases hlow.out with h | h; exact .inl h; right; omega)]
          exact hown
        have b0 : (((0 : Int) != 0)) = false := rfl
        clear e hrow hv hu du hg hr dz Hz Hcan hlow hown hbel
        go_wp2_with fail
        go_ret
        exact fin
      · have b0 : ((ov : Int) != 0) = true := by rw [bne_iff_ne]; omega
        have hsz := hbel.size
        have hcan2 : Hid (cn Q (vl Q zs * 10 + d) = us ++ [ov]) := hide (by
          have hq : ov < Q := by unfold Q; omega
          have hd2 : Dg Q (us ++ [ov]) := du.append (Dg.cons hq Dg.nil)
          rw [← e, ← hu, ← vl_snoc, cn_of_last Q_two hd2 h0])
        have fin : ∀ v' w', Own .u64 71 w' B v' (us ++ [ov]) → wr.grownBy w' (Value.slice (some ⟨g, 0, none⟩) k c).ownBlock → AdRet 71 w B (vl Q zs * 10 + d) (.returned v') w' := by
          intro v' w' ho hgr
          exact ⟨v', rfl, by rw [hcan2.out]; exact ho, push_below hbel hown hgr (Nat.le_trans hBw hsz)⟩
        have Hown := hide hown
        have Hlen : Hid (us.length + 1 ≤ 17592186044416) := hide (by omega)
        have Hsz : Hid (B ≤ wr.heap.size) := hide (Nat.le_trans hBw hsz)
        clear e hrow hv hu du hg hr dz Hz Hcan hlow hown hbel hcan2 hsz
        go_wp2_with (at_builtin; refine wpList_push rfl (.tmp 39) (.tmp 41) 22 rfl Tryd.underlying22 hi hz0 hz1 hz2 rfl wr B _ us ov Hown.out rfl rfl Hlen.out (by decide) Hsz.out ?_; intro v' w' ho hgr; have fin2 := fin v' w' ho hgr.1; clear fin ho hgr)
        go_ret
        exact fin2

set_option maxHeartbeats 1000000 in
theorem appendDigit_nil (B d : Nat) (w : World) (hd : d < 10) (hBw : B ≤ w.heap.size) :
    Calls Tryd.prog 80 #[.slice none 0 0, .int .u64 (d : Int)] w (AdRet 71 w B d) := by
  obtain ⟨i0, hi, hz0, hz1, hz2⟩ := info_parts info_u64
  have hdQ : d < Q := by unfold Q; omega
  by_cases h0 : d = 0
  · subst h0
    have fin : AdRet 71 w B 0 (.returned (.slice none 0 0)) w := ⟨_, rfl, by rw [cn_zero]; exact Own.nil, Below.refl _ _⟩
    have b0 : (((0 : Int) != 0)) = false := rfl
    go_enter Tryd.func80, Tryd.ntmps80
    go_wp2_with fail
    go_loop [5, 14] (fun cv iv => cv = .int .u64 0 ∧ iv = .int .i64 0) (fun _ _ => 0)
    case atStart => exact ⟨rfl, rfl⟩
    case round =>
      obtain ⟨rfl, rfl⟩ := hrel
      go_wp2_with fail
      go_ret
      exact fin
  · have b0 : ((d : Int) != 0) = true := by rw [bne_iff_ne]; omega
    have hcan : Hid (cn Q d = [d]) := hide (by rw [← cn_single hdQ]; simp [tz, h0])
    have fin : ∀ v' w', Own .u64 71 w' B v' ([] ++ [d]) → w.grownBy w' (Value.slice none 0 0).ownBlock → AdRet 71 w B d (.returned v') w' := by
      intro v' w' ho hgr
      exact ⟨v', rfl, by rw [hcan.out]; exact ho, push_below (k := .u64) (e := 71) (Below.refl _ _) Own.nil hgr hBw⟩
    have Hsz := hide hBw
    clear hBw h0
    go_enter Tryd.func80, Tryd.ntmps80
    go_wp2_with fail
    go_loop [5, 14] (fun cv iv => cv = .int .u64 (d : Int) ∧ iv = .int .i64 0) (fun _ _ => 0)
    case atStart => exact ⟨rfl, rfl⟩
    case round =>
      obtain ⟨rfl, rfl⟩ := hrel
      go_wp2_with (at_builtin; refine wpList_push rfl (.tmp 39) (.tmp 41) 22 rfl Tryd.underlying22 hi hz0 hz1 hz2 rfl w B _ [] d Own.nil rfl rfl (by simp) (by decide) Hsz.out ?_; intro v' w' ho hgr; have fin2 := fin v' w' ho hgr.1; clear fin ho hgr)
      go_ret
      exact fin2

theorem appendDigit_own (B S d : Nat) (v : Value) (w : World) (h : Own .u64 71 w B v (cn Q S)) (hd : d < 10) (hBw : B ≤ w.heap.size) (hn : (cn Q S).length ≤ 17592186044000) :
    Calls Tryd.prog 80 #[v, .int .u64 (d : Int)] w (AdRet 71 w B (S * 10 + d)) := by
  rcases h with ⟨rfl, he⟩ | ⟨g, cap, C, rfl, hB, hr, hC, hm⟩
  · have h0 := (cn_eq_nil Q_two).1 he
    subst h0
    rw [Nat.zero_mul, Nat.zero_add]
    exact appendDigit_nil B d w hd hBw
  · have h := appendDigit_row B g _ cap d C _ w hr rfl (dg_cn Q_two S) (by rw [vl_cn Q_two]) hd hB hBw hC hm hn
    rwa [vl_cn Q_two] at h

/-! ### Digits -/
def allDig (l : List UInt8) : Bool := l.all fun b => decide (48 ≤ b.toNat) && decide (b.toNat ≤ 57)
def dval (l : List UInt8) : Nat := l.foldl (fun a b => a * 10 + (b.toNat - 48)) 0
/-- ErrDigit, ErrLong, or none. -/
def pcode (l : List UInt8) : Nat := if l = [] ∨ allDig l = false then 5 else if 200 < l.length then 1 else 0
theorem dval_snoc (l : List UInt8) (b : UInt8) : dval (l ++ [b]) = dval l * 10 + (b.toNat - 48) := by unfold dval; rw [List.foldl_append]; rfl
theorem allDig_mem {l : List UInt8} (h : allDig l = true) {b : UInt8} (hb : b ∈ l) : 48 ≤ b.toNat ∧ b.toNat ≤ 57 := by
  unfold allDig at h
  have := List.all_eq_true.1 h b hb
  simpa using this
theorem dval_take_lt (l : List UInt8) (h : allDig l = true) (k : Nat) : dval (l.take k) < 10 ^ k := by
  induction k with
  | zero => simp [dval]
  | succ k ih =>
    rcases Nat.lt_or_ge k l.length with hk | hk
    · rw [List.take_succ_eq_append_getElem hk, dval_snoc, Nat.pow_succ]
      have := allDig_mem h (List.getElem_mem hk)
      omega
    · rw [List.take_of_length_le (by omega)]
      rw [List.take_of_length_le hk] at ih
      rw [Nat.pow_succ]
      omega

def digSet : List UInt8 := [48, 49, 50, 51, 52, 53, 54, 55, 56, 57]
theorem digSet_fin : ∀ n : Fin 256, digSet.contains (UInt8.ofNat n.val) = (decide (48 ≤ n.val) && decide (n.val ≤ 57)) := by decide +kernel
theorem digSet_iff (b : UInt8) : digSet.contains b = (decide (48 ≤ b.toNat) && decide (b.toNat ≤ 57)) := by
  have h := digSet_fin ⟨b.toNat, b.toNat_lt⟩
  rw [show UInt8.ofNat b.toNat = b from UInt8.ofNat_toNat] at h
  exact h
theorem dropWhile_nil {p : UInt8 → Bool} : ∀ {l : List UInt8}, l.dropWhile p = [] ↔ l.all p = true := by
  intro l
  induction l with
  | nil => simp
  | cons x l ih =>
    rw [List.dropWhile_cons, List.all_cons]
    by_cases h : p x = true
    · rw [if_pos h, ih, h]; simp
    · rw [if_neg h]; simp [h]
theorem dropWhile_head {p : UInt8 → Bool} {x : UInt8} {r : List UInt8} : ∀ {l : List UInt8}, l.dropWhile p = x :: r → p x = false := by
  intro l
  induction l with
  | nil => intro h; cases h
  | cons y l ih =>
    intro h
    rw [List.dropWhile_cons] at h
    by_cases hp : p y = true
    · rw [if_pos hp] at h; exact ih h
    · rw [if_neg hp] at h
      injection h with h1 h2
      subst h1
      simpa using hp
theorem trim_empty (l : List UInt8) : (Lib.trimS l [48, 49, 50, 51, 52, 53, 54, 55, 56, 57]).isEmpty = allDig l := by
  have hp : (fun b => digSet.contains b) = fun b : UInt8 => (decide (48 ≤ b.toNat) && decide (b.toNat ≤ 57)) := funext digSet_iff
  have e : Lib.trimS l [48, 49, 50, 51, 52, 53, 54, 55, 56, 57] = ((l.reverse.dropWhile fun b => digSet.contains b).reverse).dropWhile fun b => digSet.contains b := rfl
  rw [e, hp]
  by_cases h : allDig l = true
  · have h1 : l.reverse.dropWhile (fun b : UInt8 => (decide (48 ≤ b.toNat) && decide (b.toNat ≤ 57))) = [] := dropWhile_nil.2 (by rw [List.all_reverse]; exact h)
    rw [h1, h]; rfl
  · have h1 : l.reverse.dropWhile (fun b : UInt8 => (decide (48 ≤ b.toNat) && decide (b.toNat ≤ 57))) ≠ [] := fun hh => h (by
      have := dropWhile_nil.1 hh
      rwa [List.all_reverse] at this)
    obtain ⟨x, r, hr⟩ : ∃ x r, l.reverse.dropWhile (fun b : UInt8 => (decide (48 ≤ b.toNat) && decide (b.toNat ≤ 57))) = x :: r := by
      cases hd : l.reverse.dropWhile (fun b : UInt8 => (decide (48 ≤ b.toNat) && decide (b.toNat ≤ 57))) with
      | nil => exact absurd hd h1
      | cons x r => exact ⟨x, r, rfl⟩
    have hx := dropWhile_head hr
    rw [hr]
    have h2 : ((x :: r).reverse.dropWhile (fun b : UInt8 => (decide (48 ≤ b.toNat) && decide (b.toNat ≤ 57)))) ≠ [] := fun hh => by
      have := dropWhile_nil.1 hh
      rw [List.all_reverse, List.all_cons, hx] at this
      simp at this
    have h3 : allDig l = false := by simpa using h
    rw [h3]
    cases hd : (x :: r).reverse.dropWhile (fun b : UInt8 => (decide (48 ≤ b.toNat) && decide (b.toNat ≤ 57))) with
    | nil => exact absurd hd h2
    | cons a b => rfl

/-- What Parse answers. -/
def ParseRet (t : TypeId) (w : World) (l : List UInt8) (e : Ending) (w' : World) : Prop :=
  (pcode l ≠ 0 → e = .returned (.tuple #[.slice none 0 0, .int .i64 (pcode l : Int)])) ∧
  (pcode l = 0 → ∃ v, e = .returned (.tuple #[v, .int .i64 0]) ∧ Own .u64 t w' w.heap.size v (cn Q (dval l))) ∧ Below w.heap.size w w'
theorem parseRet_err {t : TypeId} {w w' : World} {l : List UInt8} {c : Nat} (h : pcode l = c) (hc : c ≠ 0) (hb : Below w.heap.size w w') : ParseRet t w l (.returned (.tuple #[.slice none 0 0, .int .i64 (c : Int)])) w' :=
  ⟨fun _ => by rw [h], fun h0 => absurd (h.symm.trans h0) hc, hb⟩
theorem parseRet_ok {t : TypeId} {w w' : World} {l : List UInt8} {v : Value} (h : pcode l = 0) (ho : Own .u64 t w' w.heap.size v (cn Q (dval l))) (hb : Below w.heap.size w w') : ParseRet t w l (.returned (.tuple #[v, .int .i64 0])) w' :=
  ⟨fun h0 => absurd h h0, fun _ => ⟨v, rfl, ho⟩, hb⟩

theorem parse_empty (w : World) : Calls Tryd.prog 48 #[.string ByteArray.empty] w (ParseRet 71 w []) := by
  have fin := parseRet_err (t := 71) (w := w) (w' := w) (l := []) (c := 5) (by simp [pcode]) (by omega) (Below.refl _ _)
  go_enter Tryd.func48, Tryd.ntmps48
  go_wp2_with fail
  go_ret2
  exact fin

def PRel (w : World) (n : Nat) (l : List UInt8) (v iv : Value) (wr : World) : Prop :=
  ∃ k : Nat, k ≤ n ∧ iv = .int .i64 (k : Int) ∧ Own .u64 71 wr w.heap.size v (cn Q (dval (l.take k))) ∧ Below w.heap.size w wr

theorem toList_data (s : ByteArray) : s.toList = s.data.toList := Lib.toList_data s

set_option maxHeartbeats 1000000 in
theorem parse_some (s : ByteArray) (w : World) (hs : s.size ≤ 9223372036854775807) (h0 : s.toList.isEmpty = false) : Calls Tryd.prog 48 #[.string s] w (ParseRet 71 w s.data.toList) := by
  have ht := Tryd.strings_Trim_digits s w hs
  have hte := trim_empty s.data.toList
  have hne : s.data.toList ≠ [] := by
    intro h
    rw [toList_data, h] at h0
    simp at h0
  have hlen : s.data.toList.length = s.size := by rw [Array.length_toList]; rfl
  generalize (Lib.trimS s.data.toList [48, 49, 50, 51, 52, 53, 54, 55, 56, 57]) = tr at *
  by_cases hd : allDig s.data.toList = true
  · have k1 : (!tr.isEmpty) = false := by rw [hte, hd]; rfl
    clear hte
    by_cases hl : 200 < s.size
    · have fin := fun w1 => parseRet_err (t := 71) (w := w) (w' := w1) (l := s.data.toList) (c := 1) (by unfold pcode; rw [if_neg (by simp [hne, hd]), if_pos (by omega)]) (by omega)
      clear hne hd hlen
      go_enter Tryd.func48, Tryd.ntmps48
      go_wp2_with (go_at_call 79; refine ht.mono ?_; rintro e w1 ⟨rfl, hb1⟩; have fin1 := fin w1 hb1)
      go_ret2
      exact fin1
    · have hp : pcode s.data.toList = 0 := by unfold pcode; rw [if_neg (by simp [hne, hd]), if_neg (by omega)]
      have st : ∀ w1, Below w.heap.size w w1 → PRel w s.size s.data.toList (.slice none 0 0) (.int .i64 0) w1 := fun w1 hb => ⟨0, Nat.zero_le _, rfl, by simp [dval, cn_zero]; exact Own.nil, hb⟩
      have Hd := hide hd
      have Hp := hide hp
      have Hlen := hide hlen
      clear hne hd hp hlen
      go_enter Tryd.func48, Tryd.ntmps48
      go_wp2_with (go_at_call 79; refine ht.mono ?_; rintro e w1 ⟨rfl, hb1⟩; have st1 := st w1 hb1)
      go_loopw [4, 18] (fun v iv wr => PRel w s.size s.data.toList v iv wr) (fun _ iv _ => s.size - (intOf iv).toNat)
      case atStart => exact st1
      case round =>
        obtain ⟨k, hk, rfl, hown, hbel⟩ := hrel
        clear st st1 ht hb1 k1 h0
        by_cases hlt : k < s.size
        · have hkl : k < s.data.toList.length := by rw [Hlen.out]; exact hlt
          have hbd := allDig_mem Hd.out (List.getElem_mem hkl)
          obtain ⟨d, hd⟩ : ∃ d, d = (s.data.toList[k]'hkl).toNat - 48 := ⟨_, rfl⟩
          have hsk : (s[k]'hlt).toNat = d + 48 := by
            have : s[k]'hlt = s.data.toList[k]'hkl := rfl
            rw [this]; omega
          have hd9 : d ≤ 9 := by omega
          have hcl : (cn Q (dval (s.data.toList.take k))).length ≤ 17592186044000 := by
            have h1 := dval_take_lt s.data.toList Hd.out k
            have h2 : 10 ^ k ≤ Q ^ k := Nat.pow_le_pow_left (by unfold Q; omega) k
            have := cn_length_le Q_two (Nat.lt_of_lt_of_le h1 h2)
            omega
          have had : ∀ v, Own .u64 71 wr w.heap.size v (cn Q (dval (s.data.toList.take k))) → Calls Tryd.prog 80 #[v, .int .u64 (d : Int)] wr (fun e w' => ∃ v', e = .returned v' ∧ PRel w s.size s.data.toList v' (.int .i64 ((k + 1 : Nat) : Int)) w') := by
            intro v ho
            refine (appendDigit_own w.heap.size _ d v wr ho (by omega) hbel.size hcl).mono fun e w' ⟨v', he, ho', hb'⟩ => ⟨v', he, k + 1, by omega, rfl, ?_, hbel.trans hb'⟩
            rw [List.take_succ_eq_append_getElem hkl, dval_snoc, ← hd]
            exact ho'
          have had2 := had _ hown
          clear had hd hbd hcl hown hbel hkl Hd Hp Hlen
          go_wp2_with (go_at_call 80; refine had2.mono ?_; rintro e w2 ⟨v2, rfl, hrel2⟩)
          go_roundw
          case rel => exact hrel2
          case measure => simp [intOf]; omega
        · obtain rfl : k = s.size := by omega
          rw [List.take_of_length_le (by rw [Hlen.out]; exact Nat.le_refl _)] at hown
          have fin := parseRet_ok Hp.out hown hbel
          clear hown hbel Hd Hp Hlen
          go_wp2_with fail
          go_ret2
          exact fin
  · have k1 : (!tr.isEmpty) = true := by rw [hte]; simpa using hd
    have fin := fun w1 => parseRet_err (t := 71) (w := w) (w' := w1) (l := s.data.toList) (c := 5) (by unfold pcode; rw [if_pos (Or.inr (by simpa using hd))]) (by omega)
    clear hte hne hd hlen
    go_enter Tryd.func48, Tryd.ntmps48
    go_wp2_with (go_at_call 79; refine ht.mono ?_; rintro e w1 ⟨rfl, hb1⟩; have fin1 := fin w1 hb1)
    go_ret2
    exact fin1

theorem parse_any (s : ByteArray) (w : World) (hs : s.size ≤ 9223372036854775807) : Calls Tryd.prog 48 #[.string s] w (ParseRet 71 w s.data.toList) := by
  by_cases h : s.toList.isEmpty = false
  · exact parse_some s w hs h
  · have h1 : s.data.toList = [] := by
      rw [toList_data] at h
      cases hl : s.data.toList with
      | nil => rfl
      | cons a l => rw [hl] at h; simp at h
    have h2 : s = ByteArray.empty := by
      cases s with
      | mk d =>
        have : d = #[] := by cases d; simp_all
        subst this; rfl
    subst h2
    exact parse_empty w
end Go.Proofs.YtkonakjchimniaaDoor
