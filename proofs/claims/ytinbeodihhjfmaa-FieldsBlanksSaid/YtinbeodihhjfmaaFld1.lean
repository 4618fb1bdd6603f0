/-
  The lines of a text, as lists of bytes: no function of the program here.
-/
import Derived.Lib.FieldsP
import Derived.Lib.Strings
import Derived.Shelf.Strings.FuncGrows
namespace Go.Proofs.Ytinbeodihhjfmaa
set_option linter.unusedVariables false

abbrev Bs := List UInt8
/-- What stands between line feeds, each with the line feed that ends it. -/
def lnsOf : Bs → List Bs
  | [] => []
  | c :: r => if c = 10 then [c] :: lnsOf r else match lnsOf r with
    | [] => [[c]]
    | l :: ls => (c :: l) :: ls
theorem lnsOf_ne : ∀ {s : Bs}, s ≠ [] → lnsOf s ≠ []
  | [], h => absurd rfl h
  | c :: r, _ => by
    unfold lnsOf
    split
    · simp
    · split <;> simp
theorem lnsOf_cut : ∀ (p r : Bs), (∀ c ∈ p, c ≠ 10) → lnsOf (p ++ 10 :: r) = (p ++ [10]) :: lnsOf r
  | [], r, _ => by simp [lnsOf]
  | c :: p, r, h => by
    have hc : c ≠ 10 := h c (by simp)
    have ih := lnsOf_cut p r (fun x hx => h x (by simp [hx]))
    show lnsOf (c :: (p ++ 10 :: r)) = _
    rw [lnsOf, if_neg hc, ih]
    rfl
theorem lnsOf_last : ∀ (s : Bs), s ≠ [] → (∀ c ∈ s, c ≠ 10) → lnsOf s = [s]
  | [], h, _ => absurd rfl h
  | [c], _, h => by
    have hc : c ≠ 10 := h c (by simp)
    simp [lnsOf, hc]
  | c :: d :: r, _, h => by
    have hc : c ≠ 10 := h c (by simp)
    have ih := lnsOf_last (d :: r) (by simp) (fun x hx => h x (by simp at hx ⊢; rcases hx with h1 | h1; exact .inr (.inl h1); exact .inr (.inr h1)))
    rw [lnsOf, if_neg hc, ih]
theorem lnsOf_join : ∀ (a b : Bs), lnsOf (a ++ 10 :: b) = lnsOf (a ++ [10]) ++ lnsOf b
  | [], b => by simp [lnsOf]
  | c :: a, b => by
    have ih := lnsOf_join a b
    show lnsOf (c :: (a ++ 10 :: b)) = lnsOf (c :: (a ++ [10])) ++ lnsOf b
    rw [lnsOf, lnsOf]
    by_cases hc : c = 10
    · rw [if_pos hc, if_pos hc, ih]; rfl
    · rw [if_neg hc, if_neg hc, ih]
      cases e : lnsOf (a ++ [10]) with
      | nil => exact absurd e (lnsOf_ne (by simp))
      | cons l ls => rfl
theorem lnsOf_len : ∀ (s : Bs), (lnsOf s).length ≤ s.length
  | [] => Nat.le_refl _
  | c :: r => by
    have ih := lnsOf_len r
    rw [lnsOf]
    split
    · simp; exact ih
    · cases e : lnsOf r with
      | nil => simp
      | cons l ls => rw [e] at ih; simp at ih ⊢; omega
theorem lnsOf_mem_len : ∀ (s : Bs), ∀ l ∈ lnsOf s, l.length ≤ s.length ∧ l ≠ []
  | [], l, h => by simp [lnsOf] at h
  | c :: r, l, h => by
    rw [lnsOf] at h
    split at h
    · simp at h
      rcases h with rfl | h
      · simp
      · have ih := lnsOf_mem_len r l h
        exact ⟨by simp; omega, ih.2⟩
    · cases e : lnsOf r with
      | nil =>
        rw [e] at h
        simp at h
        subst h
        simp
      | cons l0 ls =>
        rw [e] at h
        simp at h
        have ih := lnsOf_mem_len r
        rw [e] at ih
        rcases h with rfl | h
        · have := (ih l0 (by simp)).1
          simp
          exact this
        · have := ih l (by simp [h])
          exact ⟨by simp; omega, this.2⟩

/-- A byte as a rune: a blank? -/
def blk (x : Nat) : Bool := decide (x = 32) || decide (x = 9)
def fgn (x : Nat) : Bool := !blk x && (decide (x < 33) || decide (126 < x))
/-- A line without what ends it. -/
def strip (x : Bs) : Bs := Lib.trimSuffix (Lib.trimSuffix x [10]) [13]
abbrev ba (x : Bs) : ByteArray := ⟨x.toArray⟩
def badL (x : Bs) : Bool := decide (0 ≤ Lib.idxFunc fgn true (ba (strip x)))
def wds (x : Bs) : List ByteArray := Lib.goFieldsP blk (ba (strip x))
/-- A line that counts. -/
structure Ln where
  no : Nat
  head : Bool
  ws : List ByteArray
def hd (x : Bs) : UInt8 := (strip x).headD 0
def cnt (x : Bs) : Bool := !(wds x).isEmpty && !decide (hd x = 42)
def one (k : Nat) (x : Bs) : List Ln := if cnt x then [⟨k, !blk (hd x).toNat, wds x⟩] else []
/-- The lines that count, of lines counted from k + 1 on. -/
def good : Nat → List Bs → List Ln
  | _, [] => []
  | k, x :: r => one (k + 1) x ++ good (k + 1) r
/-- The first line that may not be. -/
def badAt : Nat → List Bs → Option Nat
  | _, [] => none
  | k, x :: r => if badL x then some (k + 1) else badAt (k + 1) r
theorem good_append : ∀ (k : Nat) (a b : List Bs), good k (a ++ b) = good k a ++ good (k + a.length) b
  | k, [], b => by simp [good]
  | k, x :: a, b => by
    have ih := good_append (k + 1) a b
    simp only [List.cons_append, good, ih, List.append_assoc, List.length_cons]
    rw [show k + 1 + a.length = k + (a.length + 1) by omega]
theorem badAt_append : ∀ (k : Nat) (a b : List Bs), badAt k a = none → badAt k (a ++ b) = badAt (k + a.length) b
  | k, [], b, _ => by simp
  | k, x :: a, b, h => by
    simp only [badAt] at h
    split at h
    · cases h
    · rename_i hx
      simp only [List.cons_append, badAt, if_neg hx, List.length_cons]
      rw [badAt_append (k + 1) a b h, show k + 1 + a.length = k + (a.length + 1) by omega]
theorem badAt_append_some : ∀ (k : Nat) (a b : List Bs) (n : Nat), badAt k a = some n → badAt k (a ++ b) = some n
  | k, [], b, n, h => by cases h
  | k, x :: a, b, n, h => by
    simp only [badAt] at h
    simp only [List.cons_append, badAt]
    split at h
    · rename_i hx
      rw [if_pos hx]; exact h
    · rename_i hx
      rw [if_neg hx]
      exact badAt_append_some (k + 1) a b n h
def Ln.up (n : Nat) (l : Ln) : Ln := ⟨l.no + n, l.head, l.ws⟩
theorem good_up : ∀ (k n : Nat) (a : List Bs), good (k + n) a = (good k a).map (Ln.up n)
  | k, n, [] => rfl
  | k, n, x :: a => by
    have ih := good_up (k + 1) n a
    simp only [good, List.map_append]
    rw [show k + n + 1 = (k + 1) + n by omega, ih]
    congr 1
    unfold one
    split
    · rfl
    · rfl
theorem badAt_up : ∀ (k n : Nat) (a : List Bs), badAt (k + n) a = (badAt k a).map (· + n)
  | k, n, [] => rfl
  | k, n, x :: a => by
    have ih := badAt_up (k + 1) n a
    simp only [badAt]
    split
    · simp; omega
    · rw [show k + n + 1 = (k + 1) + n by omega, ih]
theorem good_len : ∀ (k : Nat) (a : List Bs), (good k a).length ≤ a.length
  | k, [] => Nat.le_refl _
  | k, x :: a => by
    have ih := good_len (k + 1) a
    simp only [good, List.length_append, List.length_cons]
    have h1 : (one (k + 1) x).length ≤ 1 := by
      unfold one
      split <;> simp
    omega
theorem badAt_snoc {k : Nat} {a : List Bs} {x : Bs} (h : badAt k a = none) : badAt k (a ++ [x]) = if badL x then some (k + a.length + 1) else none := by
  rw [badAt_append k a [x] h]
  simp [badAt]
theorem good_snoc (k : Nat) (a : List Bs) (x : Bs) : good k (a ++ [x]) = good k a ++ one (k + a.length + 1) x := by
  rw [good_append]
  simp [good]
end Go.Proofs.Ytinbeodihhjfmaa
