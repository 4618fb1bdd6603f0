/-
  Digits in any base, the least first: their value, their one form, and that it is one. Plain mathematics: no Go here.
-/
namespace Go.Proofs.Ytinbeodihhjfmaa.Num

/-- The value of digits in base B, the least first. -/
def vl (B : Nat) : List Nat → Nat
  | [] => 0
  | x :: xs => x + B * vl B xs

def Dg (B : Nat) (xs : List Nat) : Prop := ∀ x ∈ xs, x < B

theorem Dg.nil {B : Nat} : Dg B [] := by intro x h; cases h
theorem Dg.cons {B x : Nat} {xs : List Nat} (h : x < B) (k : Dg B xs) : Dg B (x :: xs) := by
  intro y hy
  rcases List.mem_cons.1 hy with rfl | hy
  · exact h
  · exact k y hy
theorem Dg.head {B x : Nat} {xs : List Nat} (h : Dg B (x :: xs)) : x < B := h x (List.mem_cons_self)
theorem Dg.tail {B x : Nat} {xs : List Nat} (h : Dg B (x :: xs)) : Dg B xs := fun y hy => h y (List.mem_cons_of_mem _ hy)
theorem Dg.append {B : Nat} {xs ys : List Nat} (h : Dg B xs) (k : Dg B ys) : Dg B (xs ++ ys) := by
  intro y hy
  rcases List.mem_append.1 hy with hy | hy
  · exact h y hy
  · exact k y hy
theorem Dg.left {B : Nat} {xs ys : List Nat} (h : Dg B (xs ++ ys)) : Dg B xs := fun y hy => h y (List.mem_append_left _ hy)
theorem Dg.right {B : Nat} {xs ys : List Nat} (h : Dg B (xs ++ ys)) : Dg B ys := fun y hy => h y (List.mem_append_right _ hy)
theorem Dg.take {B : Nat} {xs : List Nat} (h : Dg B xs) (k : Nat) : Dg B (xs.take k) := fun y hy => h y (List.mem_of_mem_take hy)
theorem Dg.drop {B : Nat} {xs : List Nat} (h : Dg B xs) (k : Nat) : Dg B (xs.drop k) := fun y hy => h y (List.mem_of_mem_drop hy)
theorem Dg.getD {B : Nat} {xs : List Nat} (h : Dg B xs) (hB : 0 < B) (i : Nat) : xs.getD i 0 < B := by
  rw [List.getD_eq_getElem?_getD]
  rcases Nat.lt_or_ge i xs.length with hi | hi
  · rw [List.getElem?_eq_getElem hi]; exact h _ (List.getElem_mem hi)
  · rw [List.getElem?_eq_none hi]; exact hB
theorem Dg.set {B : Nat} {xs : List Nat} (h : Dg B xs) (i : Nat) {x : Nat} (hx : x < B) : Dg B (xs.set i x) := by
  intro y hy
  rcases List.mem_or_eq_of_mem_set hy with hy | rfl
  · exact h y hy
  · exact hx
theorem Dg.replicate {B : Nat} (hB : 0 < B) (n : Nat) : Dg B (List.replicate n 0) := by
  intro y hy
  rw [(List.mem_replicate.1 hy).2]; exact hB

theorem vl_append (B : Nat) (xs ys : List Nat) : vl B (xs ++ ys) = vl B xs + B ^ xs.length * vl B ys := by
  induction xs with
  | nil => simp [vl]
  | cons x xs ih =>
    simp only [List.cons_append, vl, ih, List.length_cons, Nat.pow_succ, Nat.mul_add]
    rw [← Nat.mul_assoc, Nat.mul_comm B (B ^ _), Nat.add_assoc]

theorem vl_lt {B : Nat} {xs : List Nat} (h : Dg B xs) : vl B xs < B ^ xs.length := by
  induction xs with
  | nil => simp [vl]
  | cons x xs ih =>
    have h1 := ih h.tail
    have h2 := h.head
    simp only [vl, List.length_cons, Nat.pow_succ]
    have : B * (vl B xs + 1) ≤ B * B ^ xs.length := Nat.mul_le_mul_left _ h1
    rw [Nat.mul_add] at this
    rw [Nat.mul_comm (B ^ _) B]
    omega

theorem vl_replicate (B n : Nat) : vl B (List.replicate n 0) = 0 := by
  induction n with
  | zero => rfl
  | succ n ih => simp [List.replicate_succ, vl, ih]

theorem vl_snoc (B : Nat) (xs : List Nat) (x : Nat) : vl B (xs ++ [x]) = vl B xs + B ^ xs.length * x := by
  rw [vl_append]; simp [vl]

theorem vl_take_succ (B : Nat) (xs : List Nat) (k : Nat) : vl B (xs.take (k + 1)) = vl B (xs.take k) + B ^ k * xs.getD k 0 := by
  rw [List.getD_eq_getElem?_getD]
  rcases Nat.lt_or_ge k xs.length with h | h
  · rw [List.take_succ_eq_append_getElem h, vl_snoc, List.length_take, Nat.min_eq_left (by omega), List.getElem?_eq_getElem h]; rfl
  · rw [List.take_of_length_le (by omega), List.take_of_length_le h, List.getElem?_eq_none h]; simp

theorem vl_split (B : Nat) (xs : List Nat) (k : Nat) (hk : k ≤ xs.length) : vl B xs = vl B (xs.take k) + B ^ k * vl B (xs.drop k) := by
  conv => lhs; rw [← List.take_append_drop k xs]
  rw [vl_append, List.length_take, Nat.min_eq_left hk]

/-- Without noughts at the end. -/
def tz : List Nat → List Nat
  | [] => []
  | x :: xs => if tz xs = [] ∧ x = 0 then [] else x :: tz xs

theorem tz_vl (B : Nat) (xs : List Nat) : vl B (tz xs) = vl B xs := by
  induction xs with
  | nil => rfl
  | cons x xs ih =>
    unfold tz
    split
    · rename_i h
      rw [h.1] at ih
      simp [vl, ← ih, h.2]
    · simp [vl, ih]

theorem tz_dg {B : Nat} {xs : List Nat} (h : Dg B xs) : Dg B (tz xs) := by
  induction xs with
  | nil => exact h
  | cons x xs ih =>
    unfold tz
    split
    · exact Dg.nil
    · exact Dg.cons h.head (ih h.tail)

theorem tz_idem (xs : List Nat) : tz (tz xs) = tz xs := by
  induction xs with
  | nil => rfl
  | cons x xs ih =>
    by_cases h : tz xs = [] ∧ x = 0
    · simp only [tz, if_pos h]
    · simp only [tz, if_neg h, ih]

theorem tz_length_le (xs : List Nat) : (tz xs).length ≤ xs.length := by
  induction xs with
  | nil => exact Nat.le_refl _
  | cons x xs ih =>
    unfold tz
    split
    · exact Nat.zero_le _
    · simp; exact ih

theorem tz_take (xs : List Nat) : tz xs = xs.take (tz xs).length := by
  induction xs with
  | nil => rfl
  | cons x xs ih =>
    unfold tz
    split
    · rfl
    · simp; exact ih

theorem tz_append_zero (xs : List Nat) : tz (xs ++ [0]) = tz xs := by
  induction xs with
  | nil => rfl
  | cons x xs ih => simp [tz, ih]

theorem tz_append_pos (xs : List Nat) {x : Nat} (h : x ≠ 0) : tz (xs ++ [x]) = xs ++ [x] := by
  induction xs with
  | nil => simp [tz, h]
  | cons y xs ih => simp [tz, ih]

theorem tz_replicate (xs : List Nat) (n : Nat) : tz (xs ++ List.replicate n 0) = tz xs := by
  induction n with
  | zero => simp
  | succ n ih => rw [List.replicate_succ', ← List.append_assoc, tz_append_zero, ih]

/-- Two lists of digits of one value are one but for noughts at their ends. -/
theorem tz_unique {B : Nat} : ∀ {xs ys : List Nat}, Dg B xs → Dg B ys → vl B xs = vl B ys → tz xs = tz ys := by
  intro xs
  induction xs with
  | nil =>
    intro ys
    induction ys with
    | nil => intros; rfl
    | cons y ys ih =>
      intro hx hy h
      have hB : 0 < B := by have := hy.head; omega
      simp only [vl] at h
      have hy0 : y = 0 := by omega
      have hr : B * vl B ys = 0 := by omega
      have hr' : vl B ys = 0 := by
        rcases Nat.mul_eq_zero.1 hr with h | h
        · omega
        · exact h
      have := ih hx hy.tail (by simp [vl, hr'])
      simp only [tz] at this ⊢
      rw [← this, hy0]; simp
  | cons x xs ih =>
    intro ys hx hy h
    have hB : 0 < B := by have := hx.head; omega
    cases ys with
    | nil =>
      simp only [vl] at h
      have hx0 : x = 0 := by omega
      have hr : B * vl B xs = 0 := by omega
      have hr' : vl B xs = 0 := by
        rcases Nat.mul_eq_zero.1 hr with h | h
        · omega
        · exact h
      have := ih (ys := []) hx.tail hy (by simp [vl, hr'])
      simp only [tz] at this ⊢
      rw [this, hx0]; simp
    | cons y ys =>
      simp only [vl] at h
      have h1 := hx.head
      have h2 := hy.head
      have e1 : (x + B * vl B xs) % B = x := by rw [Nat.add_mul_mod_self_left]; exact Nat.mod_eq_of_lt h1
      have e2 : (y + B * vl B ys) % B = y := by rw [Nat.add_mul_mod_self_left]; exact Nat.mod_eq_of_lt h2
      have hxy : x = y := by rw [← e1, ← e2, h]
      subst hxy
      have hm : B * vl B xs = B * vl B ys := by omega
      have hv := Nat.eq_of_mul_eq_mul_left hB hm
      have := ih hx.tail hy.tail hv
      simp only [tz, this]

/-- The one form of a number: its digits in base B, the last one not 0. -/
def cn (B n : Nat) : List Nat :=
  if _h : n = 0 ∨ B < 2 then [] else (n % B) :: cn B (n / B)
termination_by n
decreasing_by exact Nat.div_lt_self (by omega) (by omega)

theorem cn_zero (B : Nat) : cn B 0 = [] := by rw [cn]; simp
theorem cn_pos {B n : Nat} (hB : 2 ≤ B) (h : n ≠ 0) : cn B n = (n % B) :: cn B (n / B) := by
  rw [cn, dif_neg (by omega)]

theorem vl_cn {B : Nat} (hB : 2 ≤ B) (n : Nat) : vl B (cn B n) = n := by
  induction n using Nat.strongRecOn with
  | ind n ih =>
    by_cases h : n = 0
    · subst h; rw [cn_zero]; rfl
    · rw [cn_pos hB h]
      simp only [vl]
      rw [ih _ (Nat.div_lt_self (by omega) (by omega))]
      exact Nat.mod_add_div n B

theorem dg_cn {B : Nat} (hB : 2 ≤ B) (n : Nat) : Dg B (cn B n) := by
  induction n using Nat.strongRecOn with
  | ind n ih =>
    by_cases h : n = 0
    · subst h; rw [cn_zero]; exact Dg.nil
    · rw [cn_pos hB h]
      exact Dg.cons (Nat.mod_lt _ (by omega)) (ih _ (Nat.div_lt_self (by omega) (by omega)))

theorem cn_eq_nil {B : Nat} (hB : 2 ≤ B) {n : Nat} : cn B n = [] ↔ n = 0 := by
  constructor
  · intro h
    have := vl_cn hB n
    rw [h] at this
    exact this.symm
  · rintro rfl; exact cn_zero B

theorem tz_cn {B : Nat} (hB : 2 ≤ B) (n : Nat) : tz (cn B n) = cn B n := by
  induction n using Nat.strongRecOn with
  | ind n ih =>
    by_cases h : n = 0
    · subst h; rw [cn_zero]; rfl
    · rw [cn_pos hB h]
      have h1 := ih (n / B) (Nat.div_lt_self (by omega) (by omega))
      simp only [tz, h1]
      rw [if_neg]
      rintro ⟨h2, h3⟩
      have h4 := (cn_eq_nil hB).1 h2
      have := Nat.mod_add_div n B
      rw [h3, h4] at this
      simp at this
      omega

theorem cn_vl {B : Nat} (hB : 2 ≤ B) {xs : List Nat} (h : Dg B xs) : cn B (vl B xs) = tz xs := by
  rw [← tz_cn hB, tz_unique (dg_cn hB _) h (vl_cn hB _)]

theorem cn_of_last {B : Nat} (hB : 2 ≤ B) {xs : List Nat} {x : Nat} (h : Dg B (xs ++ [x])) (hx : x ≠ 0) : cn B (vl B (xs ++ [x])) = xs ++ [x] := by
  rw [cn_vl hB h, tz_append_pos _ hx]

theorem cn_length_le {B : Nat} (hB : 2 ≤ B) {n k : Nat} (h : n < B ^ k) : (cn B n).length ≤ k := by
  induction k generalizing n with
  | zero => simp at h; subst h; simp [cn_zero]
  | succ k ih =>
    by_cases hn : n = 0
    · subst hn; simp [cn_zero]
    · rw [cn_pos hB hn]
      simp only [List.length_cons]
      have : n / B < B ^ k := by
        rw [Nat.div_lt_iff_lt_mul (by omega)]
        rw [Nat.pow_succ] at h; exact h
      have := ih this
      omega

theorem lt_of_cn_length {B : Nat} (hB : 2 ≤ B) {n k : Nat} (h : (cn B n).length ≤ k) : n < B ^ k := by
  have h1 := vl_lt (dg_cn hB n)
  rw [vl_cn hB] at h1
  exact Nat.lt_of_lt_of_le h1 (Nat.pow_le_pow_right (by omega) h)

theorem cn_inj {B : Nat} (hB : 2 ≤ B) {n m : Nat} (h : cn B n = cn B m) : n = m := by
  rw [← vl_cn hB n, h, vl_cn hB]

theorem tz_eq_self_iff (xs : List Nat) : tz xs = xs ↔ (∀ x, xs.getLast? = some x → x ≠ 0) := by
  induction xs with
  | nil => simp [tz]
  | cons x xs ih =>
    cases xs with
    | nil => simp [tz]
    | cons y ys =>
      have e : (x :: y :: ys).getLast? = (y :: ys).getLast? := by simp [List.getLast?_cons_cons]
      rw [e, ← ih]
      constructor
      · intro h
        unfold tz at h
        split at h
        · cases h
        · exact (List.cons.inj h).2
      · intro h
        have : tz (y :: ys) ≠ [] := by rw [h]; simp
        conv => lhs; unfold tz
        rw [if_neg (fun hh => this hh.1), h]

end Go.Proofs.Ytinbeodihhjfmaa.Num
