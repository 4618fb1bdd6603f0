/-
  Numbers as texts: the parts of a text, what they tell, the text of a fraction.
-/
import Derived.Test.YtajjpepjbflojaaGreatDoorRatQ5
import Derived.Test.YtajjpepjbflojaaGreatDoorZint7
import Derived.Lib.AtoiAll


namespace Go.Proofs.YtajjpepjbflojaaGreatDoor
open Go.RowKit Go.Proofs.YtajjpepjbflojaaGreatDoor.Num
set_option linter.unusedVariables false
set_option maxRecDepth 100000

/-! ### The parts of a number's text -/
def dgB (b : UInt8) : Bool := decide (48 ≤ b.toNat) && decide (b.toNat ≤ 57)
def tw (l : List UInt8) : List UInt8 := l.takeWhile dgB
def dw (l : List UInt8) : List UInt8 := l.dropWhile dgB
def inS (z l : List UInt8) : Bool := match l with
  | [] => false
  | b :: _ => z.contains b
def oneT (z l : List UInt8) : List UInt8 := if inS z l then l.take 1 else []
def oneR (z l : List UInt8) : List UInt8 := if inS z l then l.drop 1 else l
structure Pts where
  sg : List UInt8
  ah : List UInt8
  un : List UInt8
  be : List UInt8
  es : List UInt8
  ex : List UInt8
def SG : List UInt8 := [43, 45]
/-- What stands behind the digits ahead: a point's digits. -/
def rpt (l2 : List UInt8) : List UInt8 × List UInt8 × Bool :=
  if inS [46] l2 then (tw (oneR [46] l2), dw (oneR [46] l2), (tw (oneR [46] l2)).isEmpty) else ([], l2, false)
def rex (l4 : List UInt8) : List UInt8 × List UInt8 × List UInt8 × Bool :=
  if inS [101, 69] l4 then (oneT SG (oneR [101, 69] l4), tw (oneR SG (oneR [101, 69] l4)), dw (oneR SG (oneR [101, 69] l4)), (tw (oneR SG (oneR [101, 69] l4))).isEmpty) else ([], [], l4, false)
def rtk (l : List UInt8) : Pts × Bool :=
  if inS [47] (dw (oneR SG l)) then
    (⟨oneT SG l, tw (oneR SG l), tw (oneR [47] (dw (oneR SG l))), [], [], []⟩, (dw (oneR [47] (dw (oneR SG l)))).isEmpty && !((tw (oneR SG l)).isEmpty || (tw (oneR [47] (dw (oneR SG l)))).isEmpty))
  else
    (⟨oneT SG l, tw (oneR SG l), [], (rpt (dw (oneR SG l))).1, (rex (rpt (dw (oneR SG l))).2.1).1, (rex (rpt (dw (oneR SG l))).2.1).2.1⟩,
      (rex (rpt (dw (oneR SG l))).2.1).2.2.1.isEmpty && !(((tw (oneR SG l)).isEmpty || (rpt (dw (oneR SG l))).2.2) || (rex (rpt (dw (oneR SG l))).2.1).2.2.2))
def Pts.count (p : Pts) : Nat := p.ah.length + p.un.length + p.be.length + p.ex.length
def Pts.long (p : Pts) : Bool := decide (200 < p.count) || decide (99 < dval p.ex)
def Pts.sh (p : Pts) : Int := (if p.es = [45] then -(dval p.ex : Int) else (dval p.ex : Int)) - p.be.length
def Pts.num (p : Pts) : Int := zi (p.sg == [45]) (dval (p.ah ++ p.be))
def Pts.val (p : Pts) : Rat :=
  if p.un = [] then ((p.num * 10 ^ p.sh.toNat : Int) : Rat) / (((10 ^ (-p.sh).toNat : Int)) : Rat) else (p.num : Rat) / ((dval p.un : Int) : Rat)
def rcode (l : List UInt8) : Nat :=
  if (rtk l).2 = false then 5 else if (rtk l).1.long = true then 1 else if (rtk l).1.un ≠ [] ∧ dval (rtk l).1.un = 0 then 3 else 0

theorem allDig_dgB (l : List UInt8) : allDig l = l.all dgB := rfl
theorem tw_all (l : List UInt8) : allDig (tw l) = true := by
  rw [allDig_dgB, tw]
  induction l with
  | nil => rfl
  | cons b l ih =>
    rw [List.takeWhile_cons]
    by_cases h : dgB b = true
    · rw [if_pos h, List.all_cons, h, ih]; rfl
    · rw [if_neg h]; rfl
theorem tw_dw (l : List UInt8) : tw l ++ dw l = l := List.takeWhile_append_dropWhile
theorem tw_app {d r : List UInt8} (hd : allDig d = true) (hr : inS [48, 49, 50, 51, 52, 53, 54, 55, 56, 57] r = false) : tw (d ++ r) = d ∧ dw (d ++ r) = r := by
  have h0 : ∀ b r', r = b :: r' → dgB b = false := by
    intro b r' e
    subst e
    have h1 : ∀ n : Fin 256, ([48, 49, 50, 51, 52, 53, 54, 55, 56, 57] : List UInt8).contains (UInt8.ofNat n.val) = (decide (48 ≤ n.val) && decide (n.val ≤ 57)) := by decide +kernel
    have h2 := h1 ⟨b.toNat, b.toNat_lt⟩
    rw [show UInt8.ofNat b.toNat = b from UInt8.ofNat_toNat] at h2
    unfold dgB
    rw [← h2]
    exact hr
  rw [allDig_dgB] at hd
  unfold tw dw
  induction d with
  | nil =>
    cases r with
    | nil => exact ⟨rfl, rfl⟩
    | cons b r' => rw [List.nil_append, List.takeWhile_cons, List.dropWhile_cons, h0 b r' rfl]; exact ⟨rfl, rfl⟩
  | cons b d ih =>
    rw [List.all_cons, Bool.and_eq_true] at hd
    rw [List.cons_append, List.takeWhile_cons, List.dropWhile_cons, if_pos hd.1, if_pos hd.1, (ih hd.2).1, (ih hd.2).2]
    exact ⟨rfl, rfl⟩
theorem dig_not {z d r : List UInt8} (hd : allDig d = true) (h0 : d ≠ []) (hz : z.all (fun b => !dgB b) = true) : inS z (d ++ r) = false := by
  cases d with
  | nil => exact absurd rfl h0
  | cons b d =>
    rw [allDig_dgB, List.all_cons, Bool.and_eq_true] at hd
    show z.contains b = false
    rw [Bool.eq_false_iff]
    intro hc
    have h1 := List.all_eq_true.1 hz b (List.contains_iff_mem.1 hc)
    rw [hd.1] at h1
    cases h1
theorem oneR_not {z l : List UInt8} (h : inS z l = false) : oneR z l = l ∧ oneT z l = [] := by unfold oneR oneT; rw [h]; exact ⟨rfl, rfl⟩
theorem oneR_yes {z : List UInt8} {b : UInt8} {l : List UInt8} (h : z.contains b = true) : inS z (b :: l) = true ∧ oneR z (b :: l) = l ∧ oneT z (b :: l) = [b] := by
  have h1 : inS z (b :: l) = true := h
  unfold oneR oneT; rw [h1]; exact ⟨rfl, rfl, rfl⟩
theorem ne_emp {l : List UInt8} (h : l ≠ []) : l.isEmpty = false := by cases l with
  | nil => exact absurd rfl h
  | cons => rfl
/-- A sign or none. -/
def Sgn (s : List UInt8) : Prop := s = [] ∨ s = [45]
theorem sgn_one {s d r : List UInt8} (hs : Sgn s) (hd : allDig d = true) (h0 : d ≠ []) : oneR SG (s ++ (d ++ r)) = d ++ r ∧ oneT SG (s ++ (d ++ r)) = s := by
  rcases hs with rfl | rfl
  · exact oneR_not (z := SG) (l := d ++ r) (dig_not hd h0 (by decide))
  · exact (oneR_yes (z := SG) (b := 45) (by decide)).2
theorem app_nil (l : List UInt8) : l ++ [] = l := List.append_nil l
theorem rtk_over {s d u : List UInt8} (hs : Sgn s) (hd : allDig d = true) (h0 : d ≠ []) (hu : allDig u = true) (h1 : u ≠ []) : rtk (s ++ (d ++ 47 :: u)) = (⟨s, d, u, [], [], []⟩, true) := by
  obtain ⟨a1, a2⟩ := sgn_one (r := 47 :: u) hs hd h0
  obtain ⟨b1, b2⟩ := tw_app (d := d) (r := 47 :: u) hd (by simp [inS])
  obtain ⟨c0, c1, c2⟩ := oneR_yes (z := [47]) (b := 47) (l := u) (by decide)
  have d1 := tw_app (d := u) (r := []) hu rfl
  rw [app_nil] at d1
  unfold rtk
  rw [a1, a2, b1, b2, c0, if_pos rfl, c1, d1.1, d1.2, ne_emp h0, ne_emp h1]
  rfl
theorem rtk_plain {s d : List UInt8} (hs : Sgn s) (hd : allDig d = true) (h0 : d ≠ []) : rtk (s ++ d) = (⟨s, d, [], [], [], []⟩, true) := by
  obtain ⟨a1, a2⟩ := sgn_one (r := []) hs hd h0
  have b := tw_app (d := d) (r := []) hd rfl
  rw [app_nil] at a1 a2 b
  unfold rtk
  rw [a1, a2, b.1, b.2, ne_emp h0]
  rfl
theorem rtk_point {s d u : List UInt8} (hs : Sgn s) (hd : allDig d = true) (h0 : d ≠ []) (hu : allDig u = true) (h1 : u ≠ []) : rtk (s ++ (d ++ 46 :: u)) = (⟨s, d, [], u, [], []⟩, true) := by
  obtain ⟨a1, a2⟩ := sgn_one (r := 46 :: u) hs hd h0
  obtain ⟨b1, b2⟩ := tw_app (d := d) (r := 46 :: u) hd (by simp [inS])
  obtain ⟨c0, c1, c2⟩ := oneR_yes (z := [46]) (b := 46) (l := u) (by decide)
  have c3 : inS [47] (46 :: u) = false := by simp [inS]
  have d1 := tw_app (d := u) (r := []) hu rfl
  rw [app_nil] at d1
  unfold rtk
  rw [a1, a2, b1, b2, c3, if_neg (by simp)]
  unfold rpt
  rw [c0, if_pos rfl, c1, d1.1, d1.2, ne_emp h0, ne_emp h1]
  rfl
theorem rtk_exp {s d u : List UInt8} (hs : Sgn s) (hd : allDig d = true) (h0 : d ≠ []) (hu : allDig u = true) (h1 : u ≠ []) : rtk (s ++ (d ++ 101 :: u)) = (⟨s, d, [], [], [], u⟩, true) := by
  obtain ⟨a1, a2⟩ := sgn_one (r := 101 :: u) hs hd h0
  obtain ⟨b1, b2⟩ := tw_app (d := d) (r := 101 :: u) hd (by simp [inS])
  obtain ⟨c0, c1, c2⟩ := oneR_yes (z := [101, 69]) (b := 101) (l := u) (by decide)
  have c3 : inS [47] (101 :: u) = false := by simp [inS]
  have c4 : inS [46] (101 :: u) = false := by simp [inS]
  have c5 : inS SG u = false := by have := dig_not (r := []) (z := SG) hu h1 (by decide); rwa [app_nil] at this
  obtain ⟨c6, c7⟩ := oneR_not c5
  have d1 := tw_app (d := u) (r := []) hu rfl
  rw [app_nil] at d1
  have e : rpt (101 :: u) = ([], 101 :: u, false) := by unfold rpt; rw [c4]; rfl
  unfold rtk
  rw [a1, a2, b1, b2, c3, if_neg (by simp), e]
  unfold rex
  simp only []
  rw [c0, if_pos rfl, c1, c6, c7, d1.1, d1.2, ne_emp h0, ne_emp h1]
  rfl
theorem dval_fold (l : List UInt8) : ∀ x : Nat, l.foldl (fun a b => a * 10 + (b.toNat - 48)) x = x * 10 ^ l.length + l.foldl (fun a b => a * 10 + (b.toNat - 48)) 0 := by
  induction l with
  | nil => intro x; simp
  | cons b l ih =>
    intro x
    rw [List.foldl_cons, List.foldl_cons, ih, ih (0 * 10 + _), List.length_cons, Nat.pow_succ]
    grind
theorem dval_app (a b : List UInt8) : dval (a ++ b) = dval a * 10 ^ b.length + dval b := by
  unfold dval
  rw [List.foldl_append, dval_fold]
theorem dval_zeros (k : Nat) : dval (List.replicate k 48) = 0 := by
  induction k with
  | zero => rfl
  | succ k ih => rw [List.replicate_succ', dval_snoc, ih]; rfl
theorem dval_nil : dval [] = 0 := rfl
theorem zi_pos (x : Nat) : zi (([] : List UInt8) == [45]) x = (x : Int) := rfl
theorem zi_neg1 (x : Nat) : zi (([45] : List UInt8) == [45]) x = -(x : Int) := rfl
theorem val_over (s d u : List UInt8) (h1 : u ≠ []) : (⟨s, d, u, [], [], []⟩ : Pts).val = ((zi (s == [45]) (dval d) : Int) : Rat) / ((dval u : Int) : Rat) := by
  unfold Pts.val
  rw [if_neg (show ¬ (⟨s, d, u, [], [], []⟩ : Pts).un = [] from h1)]
  unfold Pts.num
  simp only [app_nil]
theorem val_plain (s d : List UInt8) : (⟨s, d, [], [], [], []⟩ : Pts).val = ((zi (s == [45]) (dval d) : Int) : Rat) / ((1 : Int) : Rat) := by
  unfold Pts.val
  rw [if_pos rfl]
  have e : (⟨s, d, [], [], [], []⟩ : Pts).sh = 0 := rfl
  rw [e]
  unfold Pts.num
  simp only [app_nil, Int.toNat_zero, Int.neg_zero, Int.pow_zero, Int.mul_one]
theorem val_point (s d u : List UInt8) : (⟨s, d, [], u, [], []⟩ : Pts).val = ((zi (s == [45]) (dval (d ++ u)) : Int) : Rat) / (((10 ^ u.length : Nat) : Int) : Rat) := by
  unfold Pts.val
  rw [if_pos rfl]
  have e : (⟨s, d, [], u, [], []⟩ : Pts).sh = -(u.length : Int) := by unfold Pts.sh; rw [if_neg (by simp)]; simp [dval_nil]
  have e1 : (-(u.length : Int)).toNat = 0 := by omega
  have e2 : (-(-(u.length : Int))).toNat = u.length := by omega
  rw [e, e1, e2, Int.pow_zero, Int.mul_one, Int.natCast_pow]
  rfl
theorem val_exp (s d u : List UInt8) : (⟨s, d, [], [], [], u⟩ : Pts).val = ((zi (s == [45]) (dval d * 10 ^ dval u) : Int) : Rat) / ((1 : Int) : Rat) := by
  unfold Pts.val
  rw [if_pos rfl]
  have e : (⟨s, d, [], [], [], u⟩ : Pts).sh = (dval u : Int) := by unfold Pts.sh; rw [if_neg (by simp)]; simp
  have e1 : (-(dval u : Int)).toNat = 0 := by omega
  have e2 : ((dval u : Int)).toNat = dval u := by omega
  rw [e, e1, e2, Int.pow_zero]
  unfold Pts.num
  simp only [app_nil]
  congr 2
  unfold zi
  split <;> simp [Int.natCast_pow, Int.neg_mul]
theorem val_zeros (s d : List UInt8) (n : Nat) : (⟨s, d ++ List.replicate n 48, [], [], [], []⟩ : Pts).val = ((zi (s == [45]) (dval d * 10 ^ n) : Int) : Rat) / ((1 : Int) : Rat) := by
  rw [val_plain, dval_app, dval_zeros, List.length_replicate, Nat.add_zero]
theorem dval_ten (n : Nat) : dval (49 :: List.replicate n 48) = 10 ^ n := by
  have h := dval_app [49] (List.replicate n 48)
  rw [dval_zeros, List.length_replicate] at h
  rw [show (49 :: List.replicate n 48 : List UInt8) = [49] ++ List.replicate n 48 from rfl, h, show dval [49] = 1 from rfl]
  omega
theorem rcode_ok {l : List UInt8} {p : Pts} (h : rtk l = (p, true)) (h1 : p.count ≤ 200) (h2 : dval p.ex ≤ 99) (h3 : p.un = [] ∨ dval p.un ≠ 0) : rcode l = 0 ∧ (rtk l).1.val = p.val := by
  unfold rcode
  rw [h]
  refine ⟨?_, rfl⟩
  have hl : p.long = false := by unfold Pts.long; rw [Bool.or_eq_false_iff]; exact ⟨decide_eq_false (by omega), decide_eq_false (by omega)⟩
  simp only [hl]
  rw [if_neg (by simp), if_neg (by simp), if_neg (by rintro ⟨a, b⟩; rcases h3 with h3 | h3; exact a h3; exact h3 b)]
theorem rcode_long {l : List UInt8} {p : Pts} (h : rtk l = (p, true)) (h1 : 200 < p.count) : rcode l = 1 := by
  unfold rcode
  rw [h]
  have hl : p.long = true := by unfold Pts.long; rw [Bool.or_eq_true]; exact Or.inl (decide_eq_true h1)
  simp only [hl]
  rw [if_neg (by simp), if_pos trivial]
theorem fold_ge (l : List UInt8) (x : Nat) : x ≤ l.foldl (fun a b => a * 10 + (b.toNat - 48)) x := by
  rw [dval_fold]
  have := Nat.le_mul_of_pos_right x (show 0 < 10 ^ l.length from Nat.pow_pos (by omega))
  omega
theorem pu_dig : ∀ (l : List UInt8) (acc F : Nat), allDig l = true → acc < 18446744073709551616 → l.foldl (fun a b => a * 10 + (b.toNat - 48)) acc = F →
    (F < 18446744073709551616 → Lib.parseUint10 acc l = .ok F) ∧ (¬ F < 18446744073709551616 → Lib.parseUint10 acc l = .range)
  | [], acc, F, _, ha, hF => by
    rw [List.foldl_nil] at hF
    subst hF
    exact ⟨fun _ => by simp only [Lib.parseUint10], fun h => absurd ha h⟩
  | c :: r, acc, F, h, ha, hF => by
    have h1 := allDig_mem h (List.mem_cons_self)
    have h2 : allDig r = true := by
      unfold allDig at h ⊢
      rw [List.all_cons, Bool.and_eq_true] at h
      exact h.2
    rw [List.foldl_cons] at hF
    have h3 := fold_ge r (acc * 10 + (c.toNat - 48))
    rw [hF] at h3
    simp only [Lib.parseUint10]
    rw [if_pos h1]
    split
    · exact ⟨fun _ => by omega, fun _ => rfl⟩
    · split
      · exact ⟨fun _ => by omega, fun _ => rfl⟩
      · exact pu_dig r _ F h2 (by omega) hF
/-- The number that Atoi gives for a nought and digits. -/
def pw (l : List UInt8) : Int := if dval l < 9223372036854775808 then (dval l : Int) else 9223372036854775807
theorem atoi_dig {l : List UInt8} (h : allDig l = true) : Lib.atoiAll (48 :: l) = if dval l < 9223372036854775808 then .ok (dval l : Int) else .range := by
  have h0 : allDig (48 :: l) = true := by
    unfold allDig at h ⊢
    rw [List.all_cons, h]; rfl
  have e : (48 :: l : List UInt8).foldl (fun a b => a * 10 + (b.toNat - 48)) 0 = dval l := rfl
  have hp := pu_dig (48 :: l) 0 (dval l) h0 (by omega) e
  unfold Lib.atoiAll
  simp only []
  rw [if_neg (by decide)]
  unfold Lib.parseMag
  rw [if_neg (by simp)]
  have n45 : ¬ (48 : UInt8).toNat = 45 := by decide
  by_cases h1 : dval l < 18446744073709551616
  · rw [hp.1 h1]
    simp only [n45, not_false_eq_true, true_and, false_and, if_false]
    by_cases h2 : dval l < 9223372036854775808
    · rw [if_neg (by omega), if_pos h2]
    · rw [if_pos (by omega), if_neg h2]
  · rw [hp.2 h1]
    rw [if_neg (by omega)]
theorem atoi_sat (l : List UInt8) : Lib.atoiSat (48 :: l) = 9223372036854775807 := by
  unfold Lib.atoiSat
  rw [if_neg (by simp)]
theorem pw_lt {l : List UInt8} : (99 < pw l) ↔ 99 < dval l := by unfold pw; split <;> omega
theorem pw_small {l : List UInt8} (h : dval l ≤ 99) : pw l = (dval l : Int) := by unfold pw; rw [if_pos (by omega)]
/-! ### The text of a fraction -/
def rtxt (r : Rat) : List UInt8 := ztxt r.num ++ (if r.den = 1 then [] else 47 :: dtext r.den)
def sgt (a : Int) : List UInt8 := if a < 0 then [45] else []
theorem sgt_sgn (a : Int) : Sgn (sgt a) := by unfold sgt; split; exact Or.inr rfl; exact Or.inl rfl
theorem ztxt_sgt (a : Int) : ztxt a = sgt a ++ dtext a.natAbs := by unfold ztxt sgt; split <;> rfl
theorem sgt_zi (a : Int) : zi (sgt a == [45]) a.natAbs = a := by
  unfold sgt
  by_cases h : a < 0
  · rw [if_pos h, zi_neg1]; omega
  · rw [if_neg h, zi_pos]; omega
/-- Its digits. -/
def rdigits (r : Rat) : Nat := (dtext r.num.natAbs).length + (if r.den = 1 then 0 else (dtext r.den).length)
theorem rtk_rtxt (r : Rat) : ∃ p, rtk (rtxt r) = (p, true) ∧ p.count = rdigits r ∧ p.ex = [] ∧ (p.un = [] ∨ dval p.un ≠ 0) ∧ p.val = r := by
  unfold rtxt rdigits
  by_cases h : r.den = 1
  · refine ⟨⟨sgt r.num, dtext r.num.natAbs, [], [], [], []⟩, ?_, ?_, rfl, Or.inl rfl, ?_⟩
    · rw [if_pos h, List.append_nil, ztxt_sgt]
      exact rtk_plain (sgt_sgn _) (allDig_dtext _) (dtext_ne _)
    · rw [if_pos h]; rfl
    · rw [val_plain, dval_dtext, sgt_zi]
      have := num_div r
      rw [h] at this
      exact this
  · refine ⟨⟨sgt r.num, dtext r.num.natAbs, dtext r.den, [], [], []⟩, ?_, ?_, rfl, Or.inr ?_, ?_⟩
    · rw [if_neg h, ztxt_sgt, List.append_assoc]
      exact rtk_over (sgt_sgn _) (allDig_dtext _) (dtext_ne _) (allDig_dtext _) (dtext_ne _)
    · rw [if_neg h]
      unfold Pts.count
      simp
    · show dval (dtext r.den) ≠ 0
      rw [dval_dtext]; exact r.den_nz
    · rw [val_over _ _ _ (dtext_ne _), dval_dtext, dval_dtext, sgt_zi]
      exact num_div r
theorem rcode_rtxt {r : Rat} (h : rdigits r ≤ 200) : rcode (rtxt r) = 0 ∧ (rtk (rtxt r)).1.val = r := by
  obtain ⟨p, h1, h2, h3, h4, h5⟩ := rtk_rtxt r
  obtain ⟨a, b⟩ := rcode_ok h1 (by omega) (by rw [h3]; decide) h4
  exact ⟨a, b.trans h5⟩
theorem rcode_rlong {r : Rat} (h : 200 < rdigits r) : rcode (rtxt r) = 1 := by
  obtain ⟨p, h1, h2, h3, h4, h5⟩ := rtk_rtxt r
  exact rcode_long h1 (by omega)
theorem rdigits_le (r : Rat) : rdigits r ≤ (rtxt r).length := by
  unfold rdigits rtxt
  rw [ztxt_sgt]
  split <;> simp <;> omega
/-- The four texts of one number. -/
theorem pt_point {d u : List UInt8} (hd : allDig d = true) (h0 : d ≠ []) (hu : allDig u = true) (h1 : u ≠ []) (hl : d.length + u.length ≤ 200) :
    rcode (d ++ 46 :: u) = 0 ∧ (rtk (d ++ 46 :: u)).1.val = ((dval (d ++ u) : Int) : Rat) / (((10 ^ u.length : Nat) : Int) : Rat) := by
  have h := rtk_point (s := []) (Or.inl rfl) hd h0 hu h1
  obtain ⟨a, b⟩ := rcode_ok h (by unfold Pts.count; simp; omega) (show dval [] ≤ 99 by decide) (Or.inl rfl)
  exact ⟨a, b.trans (val_point [] d u)⟩
theorem pt_over {d : List UInt8} (hd : allDig d = true) (h0 : d ≠ []) (n : Nat) (hl : d.length + n + 1 ≤ 200) :
    rcode (d ++ 47 :: 49 :: List.replicate n 48) = 0 ∧ (rtk (d ++ 47 :: 49 :: List.replicate n 48)).1.val = ((dval d : Int) : Rat) / (((10 ^ n : Nat) : Int) : Rat) := by
  have hz : allDig (49 :: List.replicate n 48) = true := by
    unfold allDig
    rw [List.all_eq_true]
    intro b hb
    rw [List.mem_cons] at hb
    rcases hb with rfl | hb
    · rfl
    · rw [List.eq_of_mem_replicate hb]; rfl
  have h := rtk_over (s := []) (u := 49 :: List.replicate n 48) (Or.inl rfl) hd h0 hz (by simp)
  obtain ⟨a, b⟩ := rcode_ok h (by unfold Pts.count; simp; omega) (show dval [] ≤ 99 by decide) (Or.inr (by show dval _ ≠ 0; rw [dval_ten]; exact Nat.ne_of_gt (Nat.pow_pos (by omega))))
  refine ⟨a, b.trans ?_⟩
  rw [val_over _ _ _ (by simp), dval_ten]
  rfl
theorem pt_exp {d : List UInt8} (hd : allDig d = true) (h0 : d ≠ []) (n : Nat) (hn : n < 9) (c : UInt8) (hc : c.toNat = 48 + n) (hl : d.length ≤ 199) :
    rcode (45 :: (d ++ [101, c])) = 0 ∧ (rtk (45 :: (d ++ [101, c]))).1.val = ((-((dval d * 10 ^ n : Nat) : Int) : Int) : Rat) / ((1 : Int) : Rat) := by
  have hz : allDig [c] = true := by unfold allDig; simp; omega
  have hv : dval [c] = n := by unfold dval; simp; omega
  have h := rtk_exp (s := [45]) (u := [c]) (Or.inr rfl) hd h0 hz (by simp)
  obtain ⟨a, b⟩ := rcode_ok h (by unfold Pts.count; simp; omega) (by show dval [c] ≤ 99; omega) (Or.inl rfl)
  refine ⟨a, b.trans ?_⟩
  rw [val_exp, hv, zi_neg1]
theorem pt_zeros {d : List UInt8} (hd : allDig d = true) (h0 : d ≠ []) (n : Nat) (hn : n < 9) (hl : d.length ≤ 190) :
    rcode (45 :: (d ++ List.replicate n 48)) = 0 ∧ (rtk (45 :: (d ++ List.replicate n 48))).1.val = ((-((dval d * 10 ^ n : Nat) : Int) : Int) : Rat) / ((1 : Int) : Rat) := by
  have hz : allDig (d ++ List.replicate n 48) = true := by
    unfold allDig at hd ⊢
    rw [List.all_append, hd, Bool.true_and, List.all_eq_true]
    intro b hb
    rw [List.eq_of_mem_replicate hb]; rfl
  have h := rtk_plain (s := [45]) (d := d ++ List.replicate n 48) (Or.inr rfl) hz (by simp [h0])
  obtain ⟨a, b⟩ := rcode_ok h (by unfold Pts.count; simp; omega) (show dval [] ≤ 99 by decide) (Or.inl rfl)
  refine ⟨a, b.trans ?_⟩
  rw [val_zeros, zi_neg1]
end Go.Proofs.YtajjpepjbflojaaGreatDoor
