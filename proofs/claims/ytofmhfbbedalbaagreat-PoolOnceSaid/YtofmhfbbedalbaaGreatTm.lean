
/-
 Lists of terms: what stands at a place, their one form, products with lists. Plain mathematics: no Go here.
-/
import Derived.Test.YtofmhfbbedalbaaGreatBundleA

namespace Go.Proofs.YtofmhfbbedalbaaGreat.Num
abbrev Tm := Int × Rat
def gsum : List Tm → Int → Rat
 | [], _ => 0
 | t :: ts, c => (if t.1 = c then t.2 else 0) + gsum ts c
def gt (ts : List Tm) (c : Int) : Rat := if 0 ≤ c then gsum ts c else 0
theorem gsum_append (xs ys : List Tm) (c : Int) : gsum (xs ++ ys) c = gsum xs c + gsum ys c := by
 induction xs with
 | nil => simp [gsum, Rat.zero_add]
 | cons x xs ih => simp only [List.cons_append, gsum, ih, Rat.add_assoc]
theorem gsum_snoc (xs : List Tm) (t : Tm) (c : Int) : gsum (xs ++ [t]) c = gsum xs c + (if t.1 = c then t.2 else 0) := by
 rw [gsum_append]; simp [gsum, Rat.add_zero]
theorem gsum_perm {xs ys : List Tm} (h : xs.Perm ys) (c : Int) : gsum xs c = gsum ys c := by
 induction h with
 | nil => rfl
 | cons x _ ih => simp only [gsum, ih]
 | swap x y l => simp only [gsum]; grind
 | trans _ _ ih1 ih2 => exact ih1.trans ih2
theorem gsum_none {xs : List Tm} {c : Int} (h : ∀ t ∈ xs, t.1 ≠ c) : gsum xs c = 0 := by
 induction xs with
 | nil => rfl
 | cons x xs ih =>
  rw [gsum, if_neg (h x (List.mem_cons_self)), ih (fun t ht => h t (List.mem_cons_of_mem _ ht)), Rat.zero_add]
theorem gsum_filter {xs : List Tm} (p : Tm → Bool) {c : Int} (h : ∀ t ∈ xs, p t = false → t.1 ≠ c ∨ t.2 = 0) : gsum (xs.filter p) c = gsum xs c := by
 induction xs with
 | nil => rfl
 | cons x xs ih =>
  have ih := ih (fun t ht => h t (List.mem_cons_of_mem _ ht))
  rw [List.filter_cons]
  cases hp : p x with
  | true => simp only [if_true, gsum, ih]
  | false =>
   simp only [gsum, ih, Bool.false_eq_true, if_false]
   rcases h x (List.mem_cons_self) hp with h | h
   ·rw [if_neg h, Rat.zero_add]
   ·rw [h]; simp [Rat.zero_add]
def gmul (a : Rat) (ts : List Tm) : List Tm := ts.map fun t => (t.1, a * t.2)
theorem gsum_mul (a : Rat) (ts : List Tm) (c : Int) : gsum (gmul a ts) c = a * gsum ts c := by
 induction ts with
 | nil => simp [gmul, gsum, Rat.mul_zero]
 | cons t ts ih =>
  have ih : gsum (ts.map fun t => (t.1, a * t.2)) c = a * gsum ts c := ih
  simp only [gmul, List.map_cons, gsum, ih, Rat.mul_add]
  congr 1
  split
  ·rfl
  ·rw [Rat.mul_zero]
def Fm (ts : List Tm) : Prop := ts.Pairwise (fun a b => a.1 < b.1) ∧ ∀ t ∈ ts, 0 ≤ t.1 ∧ t.2 ≠ 0
theorem Fm.nil : Fm [] := ⟨List.Pairwise.nil, fun t h => by cases h⟩
theorem Fm.tail {t : Tm} {ts : List Tm} (h : Fm (t :: ts)) : Fm ts := ⟨(List.pairwise_cons.1 h.1).2, fun x hx => h.2 x (List.mem_cons_of_mem _ hx)⟩
theorem Fm.head {t : Tm} {ts : List Tm} (h : Fm (t :: ts)) (c : Int) (hc : c ≤ t.1) : gsum (t :: ts) c = if t.1 = c then t.2 else 0 := by
 rw [gsum, gsum_none (fun x hx => ?_), Rat.add_zero]
 have := (List.pairwise_cons.1 h.1).1 x hx
 omega
theorem Fm.unique : ∀ {xs ys : List Tm}, Fm xs → Fm ys → (∀ c, 0 ≤ c → gsum xs c = gsum ys c) → xs = ys
 | [], [], _, _, _ => rfl
 | [], y :: ys, _, hy, h => by
  have h1 := h y.1 ((hy.2 y (List.mem_cons_self)).1)
  rw [hy.head y.1 (Int.le_refl _), if_pos rfl] at h1
  exact absurd h1.symm (hy.2 y (List.mem_cons_self)).2
 | x :: xs, [], hx, _, h => by
  have h1 := h x.1 ((hx.2 x (List.mem_cons_self)).1)
  rw [hx.head x.1 (Int.le_refl _), if_pos rfl] at h1
  exact absurd h1 (hx.2 x (List.mem_cons_self)).2
 | x :: xs, y :: ys, hx, hy, h => by
  have x0 := (hx.2 x (List.mem_cons_self)).1
  have y0 := (hy.2 y (List.mem_cons_self)).1
  have x1 := (hx.2 x (List.mem_cons_self)).2
  have y1 := (hy.2 y (List.mem_cons_self)).2
  have e1 : x.1 = y.1 := by
   rcases Int.lt_trichotomy x.1 y.1 with hl | he | hl
   ·have h1 := h x.1 x0
    rw [hx.head x.1 (Int.le_refl _), if_pos rfl, hy.head x.1 (by omega), if_neg (by omega)] at h1
    exact absurd h1 x1
   ·exact he
   ·have h1 := h y.1 y0
    rw [hy.head y.1 (Int.le_refl _), if_pos rfl, hx.head y.1 (by omega), if_neg (by omega)] at h1
    exact absurd h1.symm y1
  have e2 : x.2 = y.2 := by
   have h1 := h x.1 x0
   rw [hx.head x.1 (Int.le_refl _), if_pos rfl, hy.head x.1 (by omega), if_pos e1.symm] at h1
   exact h1
  have e3 : x = y := Prod.ext e1 e2
  subst e3
  rw [Fm.unique hx.tail hy.tail (fun c hc => ?_)]
  have h1 := h c hc
  rw [gsum, gsum] at h1
  grind
def mg (os : List Tm) (t : Tm) : List Tm := match os.getLast? with
 | some l => if l.1 = t.1 then os.dropLast ++ [(l.1, l.2 + t.2)] else os ++ [t]
 | none => [t]
theorem mg_nil (t : Tm) : mg [] t = [t] := rfl
theorem mg_same (os : List Tm) (l t : Tm) (h : l.1 = t.1) : mg (os ++ [l]) t = os ++ [(l.1, l.2 + t.2)] := by simp [mg, h]
theorem mg_other (os : List Tm) (l t : Tm) (h : l.1 ≠ t.1) : mg (os ++ [l]) t = os ++ [l] ++ [t] := by simp [mg, h]
theorem snoc_or {α : Type} (os : List α) : os = [] ∨ ∃ xs l, os = xs ++ [l] := by
 rcases List.eq_nil_or_concat os with h | ⟨xs, l, h⟩
 ·exact .inl h
 ·exact .inr ⟨xs, l, by rw [h, List.concat_eq_append]⟩
theorem gsum_mg (os : List Tm) (t : Tm) (c : Int) : gsum (mg os t) c = gsum os c + (if t.1 = c then t.2 else 0) := by
 rcases snoc_or os with rfl | ⟨xs, l, rfl⟩
 ·rw [mg_nil]; simp [gsum, Rat.zero_add, Rat.add_zero]
 ·by_cases h : l.1 = t.1
  ·rw [mg_same _ _ _ h, gsum_snoc, gsum_snoc, Rat.add_assoc]
   congr 1
   simp only [h]
   split <;> simp [Rat.add_zero]
  ·rw [mg_other _ _ _ h, gsum_snoc]
def Rs (ts : List Tm) : Prop := ts.Pairwise (fun a b => a.1 < b.1) ∧ ∀ t ∈ ts, 0 ≤ t.1
theorem Rs.nil : Rs [] := ⟨List.Pairwise.nil, fun t h => by cases h⟩
theorem Rs.mg {os : List Tm} {t : Tm} (h : Rs os) (h0 : 0 ≤ t.1) (hl : ∀ x ∈ os, x.1 ≤ t.1) : Rs (mg os t) ∧ ∀ x ∈ mg os t, x.1 ≤ t.1 := by
 rcases snoc_or os with rfl | ⟨xs, l, rfl⟩
 ·rw [mg_nil]
  exact ⟨⟨by simp, by simp [h0]⟩, by simp⟩
 ·have hp := List.pairwise_append.1 h.1
  by_cases he : l.1 = t.1
  ·rw [mg_same _ _ _ he]
   refine ⟨⟨List.pairwise_append.2 ⟨hp.1, by simp, fun a ha b hb => ?_⟩, fun x hx => ?_⟩, fun x hx => ?_⟩
   ·simp at hb; subst hb; exact hp.2.2 a ha l (by simp)
   ·rcases List.mem_append.1 hx with h1 | h1
    ·exact h.2 x (by simp [h1])
    ·simp at h1; subst h1; exact h.2 l (by simp)
   ·rcases List.mem_append.1 hx with h1 | h1
    ·exact hl x (by simp [h1])
    ·simp at h1; subst h1; exact Int.le_of_eq he
  ·rw [mg_other _ _ _ he]
   have hlt : l.1 < t.1 := by have := hl l (by simp); omega
   refine ⟨⟨List.pairwise_append.2 ⟨h.1, by simp, fun a ha b hb => ?_⟩, fun x hx => ?_⟩, fun x hx => ?_⟩
   ·simp at hb; subst hb
    rcases List.mem_append.1 ha with h1 | h1
    ·have := hp.2.2 a h1 l (by simp); omega
    ·simp at h1; subst h1; exact hlt
   ·rcases List.mem_append.1 hx with h1 | h1
    ·exact h.2 x h1
    ·simp at h1; subst h1; exact h0
   ·rcases List.mem_append.1 hx with h1 | h1
    ·exact hl x h1
    ·simp at h1; subst h1; exact Int.le_refl _
theorem Rs.fm {os : List Tm} (h : Rs os) (p : Tm → Bool) (hp : ∀ t ∈ os, p t = true ↔ t.2 ≠ 0) : Fm (os.filter p) ∧ ∀ c, gsum (os.filter p) c = gsum os c := by
 refine ⟨⟨h.1.sublist List.filter_sublist, fun t ht => ?_⟩, fun c => gsum_filter p (fun t ht hf => .inr ?_)⟩
 ·obtain ⟨h1, h2⟩ := List.mem_filter.1 ht
  exact ⟨h.2 t h1, (hp t h1).1 h2⟩
 ·have := hp t ht
  rw [hf] at this
  by_cases h2 : t.2 = 0
  ·exact h2
  ·exact absurd (this.2 h2) (by simp)
def dt : List Tm → (Int → Rat) → Rat
 | [], _ => 0
 | t :: ts, x => t.2 * x t.1 + dt ts x
theorem dt_append (xs ys : List Tm) (x : Int → Rat) : dt (xs ++ ys) x = dt xs x + dt ys x := by
 induction xs with
 | nil => simp [dt, Rat.zero_add]
 | cons t ts ih => simp only [List.cons_append, dt, ih, Rat.add_assoc]
theorem dt_snoc (xs : List Tm) (t : Tm) (x : Int → Rat) : dt (xs ++ [t]) x = dt xs x + t.2 * x t.1 := by rw [dt_append]; simp [dt, Rat.add_zero]
def sm : Nat → (Nat → Rat) → Rat
 | 0, _ => 0
 | n + 1, f => sm n f + f n
theorem sm_congr {n : Nat} {f g : Nat → Rat} (h : ∀ i, i < n → f i = g i) : sm n f = sm n g := by
 induction n with
 | zero => rfl
 | succ n ih => rw [sm, sm, ih (fun i hi => h i (by omega)), h n (by omega)]
theorem sm_add (n : Nat) (f g : Nat → Rat) : sm n (fun i => f i + g i) = sm n f + sm n g := by
 induction n with
 | zero => simp [sm, Rat.add_zero]
 | succ n ih => simp only [sm, ih]; grind
theorem sm_mul (n : Nat) (a : Rat) (f : Nat → Rat) : sm n (fun i => a * f i) = a * sm n f := by
 induction n with
 | zero => simp [sm, Rat.mul_zero]
 | succ n ih => simp only [sm, ih, Rat.mul_add]
theorem sm_zero (n : Nat) : sm n (fun _ => 0) = 0 := by
 induction n with
 | zero => rfl
 | succ n ih => simp only [sm, ih, Rat.add_zero]
theorem sm_one (n : Nat) (k : Nat) (a : Rat) (h : k < n) : sm n (fun i => if i = k then a else 0) = a := by
 induction n with
 | zero => omega
 | succ n ih =>
  rw [sm]
  by_cases hk : k = n
  ·subst hk
   rw [if_pos rfl, sm_congr (g := fun _ => 0) (fun i hi => if_neg (by omega)), sm_zero, Rat.zero_add]
  ·rw [ih (by omega), if_neg (by omega), Rat.add_zero]
theorem dt_sum (ts : List Tm) (n : Nat) (x : Int → Rat) (h : ∀ c, c < 0 ∨ (n : Int) ≤ c → x c = 0) : dt ts x = sm n (fun i => gt ts (i : Int) * x (i : Int)) := by
 induction ts with
 | nil => rw [dt]; rw [sm_congr (g := fun _ => 0) (fun i _ => by simp [gt, gsum, Rat.zero_mul]), sm_zero]
 | cons t ts ih =>
  rw [dt, ih, ← Rat.add_comm]
  have e : ∀ i : Nat, gt (t :: ts) (i : Int) * x (i : Int) = gt ts (i : Int) * x (i : Int) + (if t.1 = (i : Int) then t.2 * x t.1 else 0) := fun i => by
   simp only [gt, gsum, if_pos (Int.natCast_nonneg i)]
   split
   ·rename_i h1; rw [h1]; grind
   ·grind
  rw [sm_congr (fun i _ => e i), sm_add]
  congr 1
  by_cases hc : t.1 < 0 ∨ (n : Int) ≤ t.1
  ·rw [h _ hc, Rat.mul_zero, sm_congr (g := fun _ => 0) (fun i hi => by split <;> rfl), sm_zero]
  ·have e2 : t.1 = ((t.1.toNat : Nat) : Int) := by omega
   rw [sm_congr (g := fun i => if i = t.1.toNat then t.2 * x t.1 else 0) (fun i hi => ?_), sm_one _ _ _ (by omega)]
   by_cases h2 : i = t.1.toNat
   ·rw [if_pos h2, if_pos (by omega)]
   ·rw [if_neg h2, if_neg (by omega)]
def Sz (B : Nat) (r : Rat) (L : Nat) : Prop := r.num.natAbs < B ^ L ∧ r.den < B ^ L
theorem Sz.more {B : Nat} (hB : 0 < B) {r : Rat} {L M : Nat} (h : Sz B r L) (hL : L ≤ M) : Sz B r M :=
 ⟨Nat.lt_of_lt_of_le h.1 (Nat.pow_le_pow_right hB hL), Nat.lt_of_lt_of_le h.2 (Nat.pow_le_pow_right hB hL)⟩
theorem sz_mk {B : Nat} {p : Int} {q : Nat} {L : Nat} (hq : q ≠ 0) (h1 : p.natAbs < B ^ L) (h2 : q < B ^ L) : Sz B (mkRat p q) L := by
 have hdvd : ((p.natAbs.gcd q : Nat) : Int) ∣ p := Int.ofNat_dvd_left.2 (Nat.gcd_dvd_left _ _)
 constructor
 ·simp only [mkRat, hq, dite_false, Rat.normalize_eq]
  refine Nat.lt_of_le_of_lt ?_ h1
  rw [Int.natAbs_ediv_of_dvd hdvd]
  exact Nat.div_le_self _ _
 ·simp only [mkRat, hq, dite_false, Rat.normalize_eq]
  exact Nat.lt_of_le_of_lt (Nat.div_le_self _ _) h2
theorem mul_lt {a b x y : Nat} (h1 : a < x) (h2 : b < y) : a * b < x * y := by
 have := Nat.mul_le_mul (Nat.succ_le_of_lt h1) (Nat.succ_le_of_lt h2)
 have e : (a + 1) * (b + 1) = a * b + a + b + 1 := by rw [Nat.add_mul, Nat.mul_add]; omega
 rw [Nat.succ_eq_add_one, Nat.succ_eq_add_one, e] at this
 omega
theorem sz_mul {B : Nat} {a b : Rat} {L M : Nat} (ha : Sz B a L) (hb : Sz B b M) : Sz B (a * b) (L + M) := by
 have e : a * b = mkRat (a.num * b.num) (a.den * b.den) := by rw [Rat.mul_def, Rat.normalize_eq_mkRat]
 rw [e]
 refine sz_mk (Nat.mul_ne_zero a.den_nz b.den_nz) ?_ ?_
 ·rw [Int.natAbs_mul, Nat.pow_add]; exact mul_lt ha.1 hb.1
 ·rw [Nat.pow_add]; exact mul_lt ha.2 hb.2
theorem sz_add {B : Nat} (hB : 2 ≤ B) {a b : Rat} {L M : Nat} (ha : Sz B a L) (hb : Sz B b M) : Sz B (a + b) (L + M + 1) := by
 have e : a + b = mkRat (a.num * b.den + b.num * a.den) (a.den * b.den) := by rw [Rat.add_def, Rat.normalize_eq_mkRat]
 rw [e]
 have p1 := mul_lt ha.1 hb.2
 have p2 := mul_lt hb.1 ha.2
 have p3 := mul_lt ha.2 hb.2
 rw [← Nat.pow_add] at p1 p2 p3
 rw [Nat.add_comm M L] at p2
 have p4 : B ^ (L + M) * 2 ≤ B ^ (L + M + 1) := by rw [Nat.pow_succ]; exact Nat.mul_le_mul (Nat.le_refl _) hB
 refine sz_mk (Nat.mul_ne_zero a.den_nz b.den_nz) ?_ (by omega)
 refine Nat.lt_of_le_of_lt (Int.natAbs_add_le _ _) ?_
 rw [Int.natAbs_mul, Int.natAbs_mul, Int.natAbs_natCast, Int.natAbs_natCast]
 omega
theorem sz_neg {B : Nat} {a : Rat} {L : Nat} (h : Sz B a L) : Sz B (-a) L := by
 refine ⟨?_, ?_⟩
 ·rw [Rat.neg_num, Int.natAbs_neg]; exact h.1
 ·rw [Rat.neg_den]; exact h.2
theorem sz_zero {B : Nat} (hB : 2 ≤ B) {L : Nat} (h : 1 ≤ L) : Sz B 0 L := by
 have h1 : B ^ 1 ≤ B ^ L := Nat.pow_le_pow_right (by omega) h
 rw [Nat.pow_one] at h1
 exact ⟨by show 0 < _; omega, by show 1 < _; omega⟩
theorem sz_base {B C k : Nat} (h : B ≤ C ^ k) {r : Rat} {L : Nat} (hr : Sz B r L) : Sz C r (k * L) := by
 have e : B ^ L ≤ C ^ (k * L) := by rw [Nat.pow_mul]; exact Nat.pow_le_pow_left h L
 exact ⟨Nat.lt_of_lt_of_le hr.1 e, Nat.lt_of_lt_of_le hr.2 e⟩
end Go.Proofs.YtofmhfbbedalbaaGreat.Num
