/-
  Shared texts, one behind the other: Num, Mem, Base, Bits, Sums, Sub, Mul, Push, List, Trim, Words, Lits, Trims, DivM.
-/
import Derived.Below
import Derived.Laws.OwnMore
import Derived.Laws.Rows
import Derived.Deep.Draws
import Derived.OwnWalk
import Derived.Test.YtpfeacdhplbblaaGreatProg
import Derived.WalkKit
import Derived.WalkSpells
import Derived.WalkLawsBesides
import Derived.Deep.DeepFit
import Derived.Outline
import Derived.KernelRfl
import Derived.Laws.Externs
import Derived.Laws.Bits64b
import Derived.Lib.Mul64
import Derived.Shelf.Bits.Mul64
import Derived.Shelf.Spec.BitsCarry
import Derived.Maps.AppendAt
import Derived.Deep.QuietTactic
import Derived.BigQuiet
import Derived.Lib.SliceRun

namespace Go.Proofs.YtpfeacdhplbblaaGreat.Num
def vl (B : Nat) : List Nat → Nat
  | [] => 0
  | x :: xs => x + B * vl B xs
def Dg (B : Nat) (xs : List Nat) : Prop := ∀ x ∈ xs, x < B
theorem Dg.nil {B : Nat} : Dg B [] := by intro x h; cases h
theorem Dg.cons {B x : Nat} {xs : List Nat} (h : x < B) (k : Dg B xs) : Dg B (x :: xs) := by
  intro y hy
  rcases List.mem_cons.1 hy with rfl | hy
  · exact h
  · exact k y hy
theorem Dg.head {B x : Nat} {xs : List Nat} (h : Dg B (x :: xs)) : x < B := h x (List.mem_cons_self)
theorem Dg.tail {B x : Nat} {xs : List Nat} (h : Dg B (x :: xs)) : Dg B xs := fun y hy => h y (List.mem_cons_of_mem _ hy)
theorem Dg.append {B : Nat} {xs ys : List Nat} (h : Dg B xs) (k : Dg B ys) : Dg B (xs ++ ys) := by
  intro y hy
  rcases List.mem_append.1 hy with hy | hy
  · exact h y hy
  · exact k y hy
theorem Dg.take {B : Nat} {xs : List Nat} (h : Dg B xs) (k : Nat) : Dg B (xs.take k) := fun y hy => h y (List.mem_of_mem_take hy)
theorem Dg.drop {B : Nat} {xs : List Nat} (h : Dg B xs) (k : Nat) : Dg B (xs.drop k) := fun y hy => h y (List.mem_of_mem_drop hy)
theorem Dg.getD {B : Nat} {xs : List Nat} (h : Dg B xs) (hB : 0 < B) (i : Nat) : xs.getD i 0 < B := by
  rw [List.getD_eq_getElem?_getD]
  rcases Nat.lt_or_ge i xs.length with hi | hi
  · rw [List.getElem?_eq_getElem hi]; exact h _ (List.getElem_mem hi)
  · rw [List.getElem?_eq_none hi]; exact hB
theorem Dg.set {B : Nat} {xs : List Nat} (h : Dg B xs) (i : Nat) {x : Nat} (hx : x < B) : Dg B (xs.set i x) := by
  intro y hy
  rcases List.mem_or_eq_of_mem_set hy with hy | rfl
  · exact h y hy
  · exact hx
theorem Dg.replicate {B : Nat} (hB : 0 < B) (n : Nat) : Dg B (List.replicate n 0) := by
  intro y hy
  rw [(List.mem_replicate.1 hy).2]; exact hB
theorem vl_append (B : Nat) (xs ys : List Nat) : vl B (xs ++ ys) = vl B xs + B ^ xs.length * vl B ys := by
  induction xs with
  | nil => simp [vl]
  | cons x xs ih =>
    simp only [List.cons_append, vl, ih, List.length_cons, Nat.pow_succ, Nat.mul_add]
    rw [← Nat.mul_assoc, Nat.mul_comm B (B ^ _), Nat.add_assoc]
theorem vl_lt {B : Nat} {xs : List Nat} (h : Dg B xs) : vl B xs < B ^ xs.length := by
  induction xs with
  | nil => simp [vl]
  | cons x xs ih =>
    have h1 := ih h.tail
    have h2 := h.head
    simp only [vl, List.length_cons, Nat.pow_succ]
    have : B * (vl B xs + 1) ≤ B * B ^ xs.length := Nat.mul_le_mul_left _ h1
    rw [Nat.mul_add] at this
    rw [Nat.mul_comm (B ^ _) B]
    omega
theorem vl_replicate (B n : Nat) : vl B (List.replicate n 0) = 0 := by
  induction n with
  | zero => rfl
  | succ n ih => simp [List.replicate_succ, vl, ih]
theorem vl_snoc (B : Nat) (xs : List Nat) (x : Nat) : vl B (xs ++ [x]) = vl B xs + B ^ xs.length * x := by
  rw [vl_append]; simp [vl]
theorem vl_take_succ (B : Nat) (xs : List Nat) (k : Nat) : vl B (xs.take (k + 1)) = vl B (xs.take k) + B ^ k * xs.getD k 0 := by
  rw [List.getD_eq_getElem?_getD]
  rcases Nat.lt_or_ge k xs.length with h | h
  · rw [List.take_succ_eq_append_getElem h, vl_snoc, List.length_take, Nat.min_eq_left (by omega), List.getElem?_eq_getElem h]; rfl
  · rw [List.take_of_length_le (by omega), List.take_of_length_le h, List.getElem?_eq_none h]; simp
theorem vl_split (B : Nat) (xs : List Nat) (k : Nat) (hk : k ≤ xs.length) : vl B xs = vl B (xs.take k) + B ^ k * vl B (xs.drop k) := by
  conv => lhs; rw [← List.take_append_drop k xs]
  rw [vl_append, List.length_take, Nat.min_eq_left hk]
def tz : List Nat → List Nat
  | [] => []
  | x :: xs => if tz xs = [] ∧ x = 0 then [] else x :: tz xs
theorem tz_vl (B : Nat) (xs : List Nat) : vl B (tz xs) = vl B xs := by
  induction xs with
  | nil => rfl
  | cons x xs ih =>
    unfold tz
    split
    · rename_i h
      rw [h.1] at ih
      simp [vl, ← ih, h.2]
    · simp [vl, ih]
theorem tz_dg {B : Nat} {xs : List Nat} (h : Dg B xs) : Dg B (tz xs) := by
  induction xs with
  | nil => exact h
  | cons x xs ih =>
    unfold tz
    split
    · exact Dg.nil
    · exact Dg.cons h.head (ih h.tail)
theorem tz_idem (xs : List Nat) : tz (tz xs) = tz xs := by
  induction xs with
  | nil => rfl
  | cons x xs ih =>
    by_cases h : tz xs = [] ∧ x = 0
    · simp only [tz, if_pos h]
    · simp only [tz, if_neg h, ih]
theorem tz_length_le (xs : List Nat) : (tz xs).length ≤ xs.length := by
  induction xs with
  | nil => exact Nat.le_refl _
  | cons x xs ih =>
    unfold tz
    split
    · exact Nat.zero_le _
    · simp; exact ih
theorem tz_take (xs : List Nat) : tz xs = xs.take (tz xs).length := by
  induction xs with
  | nil => rfl
  | cons x xs ih =>
    unfold tz
    split
    · rfl
    · simp; exact ih
theorem tz_append_zero (xs : List Nat) : tz (xs ++ [0]) = tz xs := by
  induction xs with
  | nil => rfl
  | cons x xs ih => simp [tz, ih]
theorem tz_append_pos (xs : List Nat) {x : Nat} (h : x ≠ 0) : tz (xs ++ [x]) = xs ++ [x] := by
  induction xs with
  | nil => simp [tz, h]
  | cons y xs ih => simp [tz, ih]
theorem tz_unique {B : Nat} : ∀ {xs ys : List Nat}, Dg B xs → Dg B ys → vl B xs = vl B ys → tz xs = tz ys := by
  intro xs
  induction xs with
  | nil =>
    intro ys
    induction ys with
    | nil => intros; rfl
    | cons y ys ih =>
      intro hx hy h
      have hB : 0 < B := by have := hy.head; omega
      simp only [vl] at h
      have hy0 : y = 0 := by omega
      have hr : B * vl B ys = 0 := by omega
      have hr' : vl B ys = 0 := by
        rcases Nat.mul_eq_zero.1 hr with h | h
        · omega
        · exact h
      have := ih hx hy.tail (by simp [vl, hr'])
      simp only [tz] at this ⊢
      rw [← this, hy0]; simp
  | cons x xs ih =>
    intro ys hx hy h
    have hB : 0 < B := by have := hx.head; omega
    cases ys with
    | nil =>
      simp only [vl] at h
      have hx0 : x = 0 := by omega
      have hr : B * vl B xs = 0 := by omega
      have hr' : vl B xs = 0 := by
        rcases Nat.mul_eq_zero.1 hr with h | h
        · omega
        · exact h
      have := ih (ys := []) hx.tail hy (by simp [vl, hr'])
      simp only [tz] at this ⊢
      rw [this, hx0]; simp
    | cons y ys =>
      simp only [vl] at h
      have h1 := hx.head
      have h2 := hy.head
      have e1 : (x + B * vl B xs) % B = x := by rw [Nat.add_mul_mod_self_left]; exact Nat.mod_eq_of_lt h1
      have e2 : (y + B * vl B ys) % B = y := by rw [Nat.add_mul_mod_self_left]; exact Nat.mod_eq_of_lt h2
      have hxy : x = y := by rw [← e1, ← e2, h]
      subst hxy
      have hm : B * vl B xs = B * vl B ys := by omega
      have hv := Nat.eq_of_mul_eq_mul_left hB hm
      have := ih hx.tail hy.tail hv
      simp only [tz, this]
def cn (B n : Nat) : List Nat :=
  if _h : n = 0 ∨ B < 2 then [] else (n % B) :: cn B (n / B)
termination_by n
decreasing_by exact Nat.div_lt_self (by omega) (by omega)
theorem cn_zero (B : Nat) : cn B 0 = [] := by rw [cn]; simp
theorem cn_pos {B n : Nat} (hB : 2 ≤ B) (h : n ≠ 0) : cn B n = (n % B) :: cn B (n / B) := by
  rw [cn, dif_neg (by omega)]
theorem vl_cn {B : Nat} (hB : 2 ≤ B) (n : Nat) : vl B (cn B n) = n := by
  induction n using Nat.strongRecOn with
  | ind n ih =>
    by_cases h : n = 0
    · subst h; rw [cn_zero]; rfl
    · rw [cn_pos hB h]
      simp only [vl]
      rw [ih _ (Nat.div_lt_self (by omega) (by omega))]
      exact Nat.mod_add_div n B
theorem dg_cn {B : Nat} (hB : 2 ≤ B) (n : Nat) : Dg B (cn B n) := by
  induction n using Nat.strongRecOn with
  | ind n ih =>
    by_cases h : n = 0
    · subst h; rw [cn_zero]; exact Dg.nil
    · rw [cn_pos hB h]
      exact Dg.cons (Nat.mod_lt _ (by omega)) (ih _ (Nat.div_lt_self (by omega) (by omega)))
theorem cn_eq_nil {B : Nat} (hB : 2 ≤ B) {n : Nat} : cn B n = [] ↔ n = 0 := by
  constructor
  · intro h
    have := vl_cn hB n
    rw [h] at this
    exact this.symm
  · rintro rfl; exact cn_zero B
theorem tz_cn {B : Nat} (hB : 2 ≤ B) (n : Nat) : tz (cn B n) = cn B n := by
  induction n using Nat.strongRecOn with
  | ind n ih =>
    by_cases h : n = 0
    · subst h; rw [cn_zero]; rfl
    · rw [cn_pos hB h]
      have h1 := ih (n / B) (Nat.div_lt_self (by omega) (by omega))
      simp only [tz, h1]
      rw [if_neg]
      rintro ⟨h2, h3⟩
      have h4 := (cn_eq_nil hB).1 h2
      have := Nat.mod_add_div n B
      rw [h3, h4] at this
      simp at this
      omega
theorem cn_vl {B : Nat} (hB : 2 ≤ B) {xs : List Nat} (h : Dg B xs) : cn B (vl B xs) = tz xs := by
  rw [← tz_cn hB, tz_unique (dg_cn hB _) h (vl_cn hB _)]
theorem cn_length_le {B : Nat} (hB : 2 ≤ B) {n k : Nat} (h : n < B ^ k) : (cn B n).length ≤ k := by
  induction k generalizing n with
  | zero => simp at h; subst h; simp [cn_zero]
  | succ k ih =>
    by_cases hn : n = 0
    · subst hn; simp [cn_zero]
    · rw [cn_pos hB hn]
      simp only [List.length_cons]
      have : n / B < B ^ k := by
        rw [Nat.div_lt_iff_lt_mul (by omega)]
        rw [Nat.pow_succ] at h; exact h
      have := ih this
      omega
theorem lt_of_cn_length {B : Nat} (hB : 2 ≤ B) {n k : Nat} (h : (cn B n).length ≤ k) : n < B ^ k := by
  have h1 := vl_lt (dg_cn hB n)
  rw [vl_cn hB] at h1
  exact Nat.lt_of_lt_of_le h1 (Nat.pow_le_pow_right (by omega) h)
end Go.Proofs.YtpfeacdhplbblaaGreat.Num


namespace Go.Proofs.YtpfeacdhplbblaaGreat
open Go.RowKit
theorem hide {p : Prop} (h : p) : Hid p := h
abbrev cl (k : IntKind) (n : Nat) : Value := .int k (n : Int)
def Rd (k : IntKind) (w : World) (B : Nat) (A : Option Addr) (n : Nat) (xs : List Nat) : Prop :=
  xs.length = n ∧ (0 < n → ∃ b off, A = some ⟨b, off, none⟩ ∧ b < B ∧ ∀ j, j < n → w.cell? ⟨b, off + j, none⟩ = some (.int k ((xs.getD j 0 : Nat) : Int)))
section
variable {k : IntKind} {w w' : World} {B B' : Nat} {A : Option Addr} {n : Nat} {xs : List Nat}
theorem Rd.nil : Rd k w B A 0 [] := ⟨rfl, fun h => absurd h (by omega)⟩
theorem Rd.len (h : Rd k w B A n xs) : xs.length = n := h.1
theorem Rd.at_ {i : Nat} (h : Rd k w B A n xs) (hi : i < n) : ∃ b off, A = some ⟨b, off, none⟩ ∧ b < B ∧ w.cell? ⟨b, off + i, none⟩ = some (.int k ((xs.getD i 0 : Nat) : Int)) := by
  obtain ⟨b, off, e, hb, hc⟩ := h.2 (by omega)
  exact ⟨b, off, e, hb, hc i hi⟩
theorem Rd.keep (h : Rd k w B A n xs) (hk : ∀ p : Addr, p.block < B → w'.cell? p = w.cell? p) : Rd k w' B A n xs :=
  ⟨h.1, fun hn => by
    obtain ⟨b, off, e, hb, hc⟩ := h.2 hn
    exact ⟨b, off, e, hb, fun j hj => (hk _ hb).trans (hc j hj)⟩⟩
theorem Rd.more (h : Rd k w B A n xs) (hB : B ≤ B') : Rd k w B' A n xs :=
  ⟨h.1, fun hn => by
    obtain ⟨b, off, e, hb, hc⟩ := h.2 hn
    exact ⟨b, off, e, by omega, hc⟩⟩
theorem Rd.below (h : Rd k w B A n xs) (hb : Below B' w w') (hB : B ≤ B') : Rd k w' B A n xs := h.keep fun _ hp => hb.cell (Nat.lt_of_lt_of_le hp hB)
theorem Rd.drew (h : Rd k w B A n xs) : Rd k w.drew B A n xs := h
theorem Rd.drewN (h : Rd k w B A n xs) (m : Nat) : Rd k (w.drewN m) B A n xs := h
theorem Rd.alloc (h : Rd k w B A n xs) (hB : B ≤ w.heap.size) (o : Obj) : Rd k (w.alloc o) B A n xs := h.keep fun p hp => World.cell?_alloc_lt w o p (by omega)
theorem Rd.setCell (h : Rd k w B A n xs) {p : Addr} (hB : B ≤ p.block) (u : Value) : Rd k (w.setCell p u) B A n xs :=
  h.keep fun q hq => World.cell?_setCell_other w p q u (fun e => by subst e; omega)
theorem Rd.grownOff (h : Rd k w B A n xs) {g : Nat} (hg : w.grownBy w' (some g)) (hB : B ≤ w.heap.size) (hA : ∀ a, A = some a → a.block ≠ g) : Rd k w' B A n xs :=
  ⟨h.1, fun hn => by
    obtain ⟨b, off, e, hb, hc⟩ := h.2 hn
    exact ⟨b, off, e, hb, fun j hj => (World.cell?_of_block (hg.block b (by omega) (fun e' => hA _ e (Option.some.inj e')))).trans (hc j hj)⟩⟩
theorem Rd.first (h : Rd k w B A n xs) {m : Nat} (hm : m ≤ n) : Rd k w B A m (xs.take m) :=
  ⟨by rw [List.length_take, h.1]; omega, fun h0 => by
    obtain ⟨b, off, e, hb, hc⟩ := h.2 (by omega)
    refine ⟨b, off, e, hb, fun j hj => ?_⟩
    rw [hc j (by omega)]
    simp [List.getD_eq_getElem?_getD, hj]⟩
end
def Row (k : IntKind) (e : TypeId) (w : World) (g off : Nat) (C : Array Value) (zs : List Nat) : Prop :=
  ∃ cs : Array Value, w.heap[g]? = some (.cells cs e (0, 0)) ∧ cs.size = C.size ∧ off + zs.length ≤ C.size ∧
    (∀ j, j < zs.length → cs[off + j]? = some (.int k ((zs.getD j 0 : Nat) : Int))) ∧ ∀ j, j < off ∨ off + zs.length ≤ j → cs[j]? = C[j]?
section
variable {k : IntKind} {e : TypeId} {w w' : World} {g off : Nat} {C : Array Value} {zs : List Nat}
theorem Row.lt (h : Row k e w g off C zs) : g < w.heap.size := by
  obtain ⟨cs, h, _⟩ := h
  rcases Nat.lt_or_ge g w.heap.size with hlt | hge
  · exact hlt
  · rw [Array.getElem?_eq_none hge] at h; cases h
theorem Row.cell (h : Row k e w g off C zs) {j : Nat} (hj : j < zs.length) : w.cell? ⟨g, off + j, none⟩ = some (.int k ((zs.getD j 0 : Nat) : Int)) := by
  obtain ⟨cs, hh, _, _, hc, _⟩ := h
  rw [cell_of_row w g (off + j) cs e (0, 0) hh]
  exact hc j hj
theorem Row.frozen (h : Row k e w g off C zs) (i : Nat) : w.frozen? ⟨g, i, none⟩ = false := by
  obtain ⟨cs, hh, _⟩ := h
  simp [World.frozen?, hh]
theorem Row.keep (h : Row k e w g off C zs) (hk : w'.heap[g]? = w.heap[g]?) : Row k e w' g off C zs := by
  obtain ⟨cs, hh, r⟩ := h
  exact ⟨cs, hk.trans hh, r⟩
theorem Row.below {B : Nat} (h : Row k e w g off C zs) (hb : Below B w w') (hg : g < B) : Row k e w' g off C zs := h.keep (hb.block g hg)
theorem Row.grown {row : Option Nat} (h : Row k e w g off C zs) (hb : w.grownBy w' row) (hg : some g ≠ row) : Row k e w' g off C zs := h.keep (hb.block g h.lt hg)
theorem Row.drew (h : Row k e w g off C zs) : Row k e w.drew g off C zs := h
theorem Row.drewN (h : Row k e w g off C zs) (m : Nat) : Row k e (w.drewN m) g off C zs := h
theorem Row.alloc (h : Row k e w g off C zs) (o : Obj) : Row k e (w.alloc o) g off C zs := h.keep (Below.heap_alloc w o g h.lt)
theorem Row.far (h : Row k e w g off C zs) {p : Addr} (hp : g ≠ p.block) (u : Value) : Row k e (w.setCell p u) g off C zs := h.keep (Below.heap_setCell w p u g hp)
theorem Row.set_ (h : Row k e w g off C zs) {j : Nat} (hj : j < zs.length) (x : Nat) : Row k e (w.setCell ⟨g, off + j, none⟩ (.int k (x : Int))) g off C (zs.set j x) := by
  obtain ⟨cs, hh, hs, hl, hc, ho⟩ := h
  refine ⟨cs.setIfInBounds (off + j) (.int k (x : Int)), ?_, by simpa using hs, by simpa using hl, fun i hi => ?_, fun i hi => ?_⟩
  · simp [World.setCell, Array.getElem?_modify, hh]
  · rw [List.length_set] at hi
    rw [Array.getElem?_setIfInBounds]
    by_cases hij : i = j
    · subst hij
      rw [if_pos rfl, if_pos (by omega)]
      simp [List.getD_eq_getElem?_getD, hi]
    · rw [if_neg (by omega), hc i hi]
      simp [List.getD_eq_getElem?_getD, Ne.symm hij]
  · rw [List.length_set] at hi
    rw [Array.getElem?_setIfInBounds, if_neg (by omega)]
    exact ho i hi
theorem Row.new (w : World) (k : IntKind) (e : TypeId) (C : Array Value) (zs : List Nat) (hz : zs.length ≤ C.size) (hc : ∀ j, j < zs.length → C[j]? = some (.int k ((zs.getD j 0 : Nat) : Int))) :
    Row k e (w.alloc (.cells C e)) w.heap.size 0 C zs :=
  ⟨C, heap_alloc_new w _, rfl, by omega, fun j hj => by rw [Nat.zero_add]; exact hc j hj, fun _ _ => rfl⟩
theorem Row.made (w : World) (k : IntKind) (e : TypeId) (n : Nat) : Row k e (w.alloc (.cells (madeCells #[.int k 0] n) e)) w.heap.size 0 (madeCells #[.int k 0] n) (List.replicate n 0) := by
  refine Row.new w k e _ _ (by simp [size_madeCells]) (fun j hj => ?_)
  rw [List.length_replicate] at hj
  have h := toList_madeCells_one (.int k 0) n
  rw [← Array.getElem?_toList, h]
  simp [hj, List.getD_eq_getElem?_getD]
theorem splice_getD {zs us : List Nat} {i m : Nat} (hu : us.length = m) (hm : i + m ≤ zs.length) (j : Nat) :
    (zs.take i ++ us ++ zs.drop (i + m)).getD j 0 = if j < i then zs.getD j 0 else if j < i + m then us.getD (j - i) 0 else zs.getD j 0 := by
  have hl : (zs.take i).length = i := by rw [List.length_take]; omega
  simp only [List.getD_eq_getElem?_getD, List.append_assoc]
  by_cases h1 : j < i
  · rw [if_pos h1, List.getElem?_append_left (by omega), List.getElem?_take, if_pos h1]
  · rw [if_neg h1, List.getElem?_append_right (by omega), hl]
    by_cases h2 : j < i + m
    · rw [if_pos h2, List.getElem?_append_left (by omega)]
    · rw [if_neg h2, List.getElem?_append_right (by omega), List.getElem?_drop, show i + m + (j - i - us.length) = j by omega]
theorem Row.window (h : Row k e w g 0 C zs) (i m : Nat) (hm : i + m ≤ zs.length) : ∃ C', Row k e w g i C' ((zs.drop i).take m) ∧
    ∀ w' us, us.length = m → Row k e w' g i C' us → Row k e w' g 0 C (zs.take i ++ us ++ zs.drop (i + m)) := by
  obtain ⟨cs, hh, hs, hl, hc, ho⟩ := h
  refine ⟨cs, ⟨cs, hh, rfl, by simp; omega, fun j hj => ?_, fun _ _ => rfl⟩, fun w' us hu hr => ?_⟩
  · simp only [List.length_take, List.length_drop] at hj
    have := hc (i + j) (by omega)
    rw [Nat.zero_add] at this
    rw [this]
    simp [List.getD_eq_getElem?_getD, show j < m by omega]
  · obtain ⟨cs', hh', hs', hl', hc', ho'⟩ := hr
    have hlen : (zs.take i ++ us ++ zs.drop (i + m)).length = zs.length := by simp; omega
    refine ⟨cs', hh', hs'.trans hs, by rw [hlen]; exact hl, fun j hj => ?_, fun j hj => ?_⟩
    · rw [hlen] at hj
      rw [Nat.zero_add, splice_getD hu hm]
      have h0 := hc j hj
      rw [Nat.zero_add] at h0
      by_cases h1 : j < i
      · rw [ho' j (Or.inl h1), h0, if_pos h1]
      · rw [if_neg h1]
        by_cases h2 : j < i + m
        · have h3 := hc' (j - i) (by omega)
          rw [show i + (j - i) = j by omega] at h3
          rw [h3, if_pos h2]
        · rw [ho' j (Or.inr (by omega)), h0, if_neg h2]
    · rw [hlen] at hj
      rw [ho' j (by omega)]
      exact ho j hj
theorem only_drewN {a w : World} {row : Option Nat} (h : a.grownBy w row) (n : Nat) : a.grownBy (w.drewN n) row := ⟨h.os, h.tape, h.output, h.size, h.block⟩
theorem only_set {a w : World} {g : Nat} (h : a.grownBy w (some g)) {p : Addr} (hp : p.block = g) (u : Value) : a.grownBy (w.setCell p u) (some g) :=
  ⟨h.os, h.tape, h.output, by simpa [World.setCell] using h.size, fun i hi hne => (Below.heap_setCell w p u i (by
    rintro rfl
    exact hne (by rw [hp]))).trans (h.block i hi hne)⟩
theorem only_refl (w : World) (row : Option Nat) : w.grownBy w row := World.grownBy.refl w row
theorem only_trans {a b c : World} {row : Option Nat} (h : a.grownBy b row) (k : b.grownBy c row) : a.grownBy c row :=
  ⟨k.os.trans h.os, k.tape.trans h.tape, k.output.trans h.output, Nat.le_trans h.size k.size, fun i hi hn => (k.block i (Nat.lt_of_lt_of_le hi h.size) hn).trans (h.block i hi hn)⟩
theorem below_only {B : Nat} {a b c : World} {g : Nat} (h : Below B a b) (k : b.grownBy c (some g)) (hB : B ≤ b.heap.size) (hg : B ≤ g) : Below B a c :=
  h.grown k hB (fun _ e => by cases e; exact hg)
theorem below_drewN {B : Nat} {a w : World} (h : Below B a w) (n : Nat) : Below B a (w.drewN n) := ⟨h.os, h.tape, h.output, h.size, h.block⟩
end
def Own (k : IntKind) (e : TypeId) (w : World) (B : Nat) (v : Value) (xs : List Nat) : Prop :=
  (v = .slice none 0 0 ∧ xs = []) ∨ ∃ g cap C, v = .slice (some ⟨g, 0, none⟩) xs.length cap ∧ B ≤ g ∧ Row k e w g 0 C xs ∧ C.size = cap ∧ cap ≤ maxLen
section
variable {k : IntKind} {e : TypeId} {w w' : World} {B : Nat} {v : Value} {xs : List Nat}
theorem Own.nil : Own k e w B (.slice none 0 0) [] := .inl ⟨rfl, rfl⟩
theorem Own.form (h : Own k e w B v xs) : ∃ A c, v = .slice A xs.length c ∧ xs.length ≤ c ∧ c ≤ maxLen ∧ Rd k w w.heap.size A xs.length xs ∧ (∀ a, A = some a → B ≤ a.block ∧ a.block < w.heap.size) := by
  rcases h with ⟨rfl, rfl⟩ | ⟨g, cap, C, rfl, hB, hr, hC, hm⟩
  · exact ⟨none, 0, rfl, Nat.le_refl _, by simp [maxLen], Rd.nil, fun a h => by cases h⟩
  · have hlt := hr.lt
    refine ⟨_, cap, rfl, ?_, hm, ⟨rfl, fun _ => ⟨g, 0, rfl, hlt, fun j hj => hr.cell hj⟩⟩, fun a h => by cases h; exact ⟨hB, hlt⟩⟩
    obtain ⟨cs, _, _, hl, _⟩ := hr
    omega
theorem Own.of_row {g cap : Nat} {C : Array Value} (hr : Row k e w g 0 C xs) (hB : B ≤ g) (hC : C.size = cap) (hm : cap ≤ maxLen) : Own k e w B (.slice (some ⟨g, 0, none⟩) xs.length cap) xs :=
  .inr ⟨g, cap, C, rfl, hB, hr, hC, hm⟩
theorem Row.first {g : Nat} {C : Array Value} {off : Nat} (h : Row k e w g off C xs) {m : Nat} (hm : m ≤ xs.length) : ∃ C', C'.size = C.size ∧ Row k e w g off C' (xs.take m) := by
  obtain ⟨cs, hh, hs, hl, hc, ho⟩ := h
  refine ⟨cs, hs, cs, hh, rfl, by simp; omega, fun j hj => ?_, fun _ _ => rfl⟩
  simp only [List.length_take] at hj
  rw [hc j (by omega)]
  simp [List.getD_eq_getElem?_getD, show j < m by omega]
theorem Own.mono {B' : Nat} (h : Own k e w B v xs) (hB : B' ≤ B) : Own k e w B' v xs := by
  rcases h with h | ⟨g, cap, C, rfl, hg, r⟩
  · exact .inl h
  · exact .inr ⟨g, cap, C, rfl, by omega, r⟩
theorem Own.below {B' : Nat} (h : Own k e w B v xs) (hb : Below B' w w') (hB : w.heap.size ≤ B') : Own k e w' B v xs := by
  rcases h with h | ⟨g, cap, C, rfl, hg, hr, r⟩
  · exact .inl h
  · exact .inr ⟨g, cap, C, rfl, hg, hr.below hb (by have := hr.lt; omega), r⟩
theorem Own.drewN (h : Own k e w B v xs) (m : Nat) : Own k e (w.drewN m) B v xs := h
theorem Own.alloc (h : Own k e w B v xs) (o : Obj) : Own k e (w.alloc o) B v xs := by
  rcases h with h | ⟨g, cap, C, rfl, hg, hr, r⟩
  · exact .inl h
  · exact .inr ⟨g, cap, C, rfl, hg, hr.alloc o, r⟩
theorem Own.grown {row : Option Nat} (h : Own k e w B v xs) (hg : w.grownBy w' row) (hne : v.ownBlock = none ∨ v.ownBlock ≠ row) : Own k e w' B v xs := by
  rcases h with h | ⟨g, cap, C, rfl, hB, hr, r⟩
  · exact .inl h
  · refine .inr ⟨g, cap, C, rfl, hB, hr.grown hg ?_, r⟩
    rcases hne with h | h
    · simp [Value.ownBlock] at h
    · simpa [Value.ownBlock] using h
theorem Own.toOwns (h : Own k e w B v xs) : w.ownsRow B e 1 v xs.length (xs.map fun n : Nat => Value.int k (n : Int)) := by
  rcases h with ⟨rfl, rfl⟩ | ⟨g, cap, C, rfl, hB, ⟨cs, hh, hs, hl, hc, _⟩, hC, hm⟩
  · exact World.ownsRow_nil _ _ _ _
  · refine ⟨by simp, .inr ⟨g, cap, cs, rfl, hB, hh, by omega, hm, by omega, ?_⟩⟩
    apply List.ext_getElem?
    intro j
    rw [List.getElem?_take]
    by_cases hj : j < xs.length
    · rw [if_pos (by omega), Array.getElem?_toList]
      have := hc j hj
      rw [Nat.zero_add] at this
      rw [this]
      simp [List.getD_eq_getElem?_getD, hj]
    · rw [if_neg (by omega)]
      simp [Nat.le_of_not_lt hj]
theorem Own.ofOwns {n : Nat} (hn : n = xs.length) (h : w.ownsRow B e 1 v n (xs.map fun n : Nat => Value.int k (n : Int))) : Own k e w B v xs := by
  subst hn
  rcases h.2 with ⟨rfl, h0⟩ | ⟨g, cap, cs, rfl, hB, hh, hl, hm, hs, ht⟩
  · exact .inl ⟨rfl, List.eq_nil_of_length_eq_zero h0⟩
  · refine .inr ⟨g, cap, cs, rfl, hB, ⟨cs, hh, rfl, by omega, fun j hj => ?_, fun _ _ => rfl⟩, by omega, hm⟩
    have e1 := congrArg (fun l : List Value => l[j]?) ht
    simp only [Nat.mul_one, List.getElem?_take, hj, if_true, Array.getElem?_toList, List.getElem?_map] at e1
    rw [Nat.zero_add, e1]
    simp [List.getD_eq_getElem?_getD, hj]
end
end Go.Proofs.YtpfeacdhplbblaaGreat

namespace Go.Proofs.YtpfeacdhplbblaaGreat
open Go.RowKit Go.Proofs.YtpfeacdhplbblaaGreat.Num
set_option linter.unusedVariables false
def atN (xs : List Nat) (i : Int) : Nat := if i < 0 then 0 else xs.getD i.toNat 0
theorem at_any (B : Nat) (A : Option Addr) (n c : Nat) (xs : List Nat) (i : Int) (w : World) (h : Rd .u64 w B A n xs) (hn : n ≤ maxLen) :
    Calls Tryz.prog 96 #[.slice A n c, .int .i64 i] w fun e w' => e = .returned (.int .u64 ((atN xs i : Nat) : Int)) ∧ w = w' := by
  unfold maxLen at hn
  by_cases h0 : i < 0
  · have e : Hid (atN xs i = 0) := hide (by unfold atN; rw [if_pos h0])
    go_enter Tryz.func96, Tryz.ntmps96
    go_wp2
    go_ret
    exact ⟨by rw [e.out]; rfl, rfl⟩
  · obtain ⟨m, rfl⟩ := Int.eq_ofNat_of_zero_le (Int.not_lt.1 h0)
    have hl := h.1
    by_cases h1 : m < n
    · obtain ⟨b, off, rfl, _, hc⟩ := h.at_ h1
      have e : Hid (atN xs (m : Int) = xs.getD m 0) := hide (by unfold atN; rw [if_neg h0]; rfl)
      clear h
      obtain ⟨x, hx⟩ : ∃ x, xs.getD m 0 = x := ⟨_, rfl⟩
      rw [hx] at hc e
      clear hx hl
      go_enter Tryz.func96, Tryz.ntmps96
      go_wp2
      go_ret
      exact ⟨by rw [e.out]; rfl, rfl⟩
    · have e : Hid (atN xs (m : Int) = 0) := hide (by
        unfold atN; rw [if_neg h0]; simp [List.getD_eq_getElem?_getD, List.getElem?_eq_none (show xs.length ≤ m by omega)])
      clear h hl
      go_enter Tryz.func96, Tryz.ntmps96
      go_wp2
      go_ret
      exact ⟨by rw [e.out]; rfl, rfl⟩
theorem at_get (B : Nat) (A : Option Addr) (n c : Nat) (xs : List Nat) (i x : Nat) (w : World) (h : Rd .u64 w B A n xs) (hn : n ≤ maxLen) (hx : Hid (xs.getD i 0 = x)) :
    Calls Tryz.prog 96 #[.slice A n c, .int .i64 (i : Int)] w fun e w' => e = .returned (.int .u64 (x : Int)) ∧ w = w' := by
  have h1 := at_any B A n c xs (i : Int) w h hn
  have e : atN xs (i : Int) = x := by unfold atN; rw [if_neg (by omega)]; exact hx.out
  rw [e] at h1
  exact h1
def clipV (A : Option Addr) (m c : Nat) : Value := if m = 0 then .slice none 0 0 else .slice A m c
theorem clipV_zero (A : Option Addr) (c : Nat) : clipV A 0 c = .slice none 0 0 := rfl
theorem clipV_pos (A : Option Addr) {m : Nat} (c : Nat) (h : 0 < m) : clipV A m c = .slice A m c := by unfold clipV; rw [if_neg (by omega)]
theorem tz_step_zero (xs : List Nat) (m : Nat) (hm : m < xs.length) (h : xs.getD m 0 = 0) : tz (xs.take (m + 1)) = tz (xs.take m) := by
  rw [List.take_succ_eq_append_getElem hm]
  have e : xs[m] = 0 := by simpa [List.getD_eq_getElem?_getD, hm] using h
  rw [e, tz_append_zero]
theorem tz_step_pos (xs : List Nat) (m : Nat) (hm : m < xs.length) (h : xs.getD m 0 ≠ 0) : (tz (xs.take (m + 1))).length = m + 1 := by
  rw [List.take_succ_eq_append_getElem hm]
  have e : xs[m] ≠ 0 := by simpa [List.getD_eq_getElem?_getD, hm] using h
  rw [tz_append_pos _ e]
  simp; omega
theorem clip_any (B : Nat) (A : Option Addr) (n c : Nat) (xs : List Nat) (w : World) (h : Rd .u64 w B A n xs) (hnc : n ≤ c) (hc : c ≤ maxLen) :
    Calls Tryz.prog 90 #[.slice A n c] w fun e w' => e = .returned (clipV A (tz xs).length c) ∧ w = w' := by
  unfold maxLen at hc
  have hl := h.1
  have h00 : Hid (tz (xs.take n) = tz xs) := hide (by rw [List.take_of_length_le (by omega)])
  clear hl
  go_enter Tryz.func90, Tryz.ntmps90
  go_wp2
  go_loop [3] (fun v => ∃ k : Nat, k ≤ n ∧ v = .int .i64 k ∧ Hid (tz (xs.take k) = tz xs)) (fun v => (intOf v).toNat)
  case atStart => exact ⟨n, Nat.le_refl _, rfl, h00⟩
  case round =>
    obtain ⟨k, hk, rfl, ht⟩ := hrel
    by_cases h0 : k = 0
    · subst h0
      go_wp2
      go_ret
      refine ⟨?_, rfl⟩
      have e := ht.out
      rw [List.take_zero] at e
      rw [← e]; rfl
    · obtain ⟨m, rfl⟩ : ∃ m, k = m + 1 := ⟨k - 1, by omega⟩
      obtain ⟨b, off, rfl, _, hcell⟩ := h.at_ (show m < n by omega)
      have hm : m < xs.length := by have := h.1; omega
      by_cases hx : xs.getD m 0 = 0
      · have e2 : Hid (tz (xs.take m) = tz xs) := hide (by rw [← tz_step_zero xs m hm hx]; exact ht.out)
        rw [hx] at hcell
        clear h hm hx h0
        go_wp2
        go_round
        case rel => exact ⟨m, by omega, rfl, e2⟩
        case measure => simp [intOf]
      · have e2 : Hid ((tz xs).length = m + 1) := hide (by rw [← ht.out]; exact tz_step_pos xs m hm hx)
        obtain ⟨x, hxx⟩ : ∃ x, xs.getD m 0 = x := ⟨_, rfl⟩
        rw [hxx] at hcell hx
        have hb : (((x : Int) != 0)) = true := by rw [bne_iff_ne]; omega
        clear h hm hxx h0
        go_wp2
        go_ret
        exact ⟨by rw [e2.out, clipV_pos _ _ (by omega)]; rfl, rfl⟩
theorem own_clip {k : IntKind} {t : TypeId} {w : World} {g cap B : Nat} {C : Array Value} {zs : List Nat} (h : Row k t w g 0 C zs) (hB : B ≤ g) (hC : C.size = cap) (hm : cap ≤ maxLen) :
    Own k t w B (clipV (some ⟨g, 0, none⟩) (tz zs).length cap) (tz zs) := by
  rcases Nat.eq_zero_or_pos (tz zs).length with h0 | h0
  · rw [h0, clipV_zero, List.eq_nil_of_length_eq_zero h0]
    exact Own.nil
  · rw [clipV_pos _ _ h0]
    obtain ⟨C', hs, hr⟩ := h.first (tz_length_le zs)
    rw [← tz_take] at hr
    exact Own.of_row hr hB (hs.trans hC) hm
theorem fill_set (zs : List Nat) (n z : Nat) : (zs ++ List.replicate (n + 1) 0).set zs.length z = zs ++ [z] ++ List.replicate n 0 := by
  rw [List.set_append_right _ _ (Nat.le_refl _), Nat.sub_self, List.replicate_succ, List.set_cons_zero, List.append_assoc]; rfl
theorem fill_len (zs : List Nat) (n : Nat) : (zs ++ List.replicate n 0).length = zs.length + n := by simp
def Q : Nat := 18446744073709551616
theorem Q_two : 2 ≤ Q := by unfold Q; omega
theorem Q_pos : 0 < Q := by unfold Q; omega
def addLo (x y c : Nat) : Nat := (x + y + c) % Q
def addCy (x y c : Nat) : Nat := (x + y + c) / Q
def subLo (x y b : Nat) : Nat := (x + Q - y - b) % Q
def subBw (x y b : Nat) : Nat := if x < y + b then 1 else 0
def mulHi (x y : Nat) : Nat := x * y / Q
def mulLo (x y : Nat) : Nat := x * y % Q
theorem add_spec (x y c : Nat) : addLo x y c + Q * addCy x y c = x + y + c := by unfold addLo addCy; exact Nat.mod_add_div _ _
theorem addLo_lt (x y c : Nat) : addLo x y c < Q := Nat.mod_lt _ Q_pos
theorem addCy_le {x y c : Nat} (hx : x < Q) (hy : y < Q) (hc : c ≤ 1) : addCy x y c ≤ 1 := by
  unfold addCy Q at *; omega
theorem sub_spec {x y b : Nat} (hy : y < Q) (hx : x < Q) (hb : b ≤ 1) : subLo x y b + y + b = x + Q * subBw x y b := by
  unfold subLo subBw Q at *
  split <;> omega
theorem subLo_lt (x y b : Nat) : subLo x y b < Q := Nat.mod_lt _ Q_pos
theorem subBw_le (x y b : Nat) : subBw x y b ≤ 1 := by unfold subBw; split <;> omega
theorem mul_spec (x y : Nat) : mulLo x y + Q * mulHi x y = x * y := by unfold mulLo mulHi; exact Nat.mod_add_div _ _
theorem mulLo_lt (x y : Nat) : mulLo x y < Q := Nat.mod_lt _ Q_pos
theorem mul_add_two {x y c d : Nat} (hx : x < Q) (hy : y < Q) (hc : c < Q) (hd : d < Q) : x * y + c + d < Q * Q := by
  have h : x * y ≤ (Q - 1) * (Q - 1) := Nat.mul_le_mul (by omega) (by omega)
  have e : (Q - 1) * (Q - 1) + (Q - 1) + (Q - 1) + 1 = Q * Q := by unfold Q; rfl
  omega
theorem add64 (x y c : Nat) (hc : c ≤ 1) (w : World) : (callFunc 114 #[.int .u64 (x : Int), .int .u64 (y : Int), .int .u64 (c : Int)]).run Tryz.prog w =
    .ok (.value (.tuple #[.int .u64 ((addLo x y c : Nat) : Int), .int .u64 ((addCy x y c : Nat) : Int)])) w := by
  rw [run_callFunc_extern Tryz.func114 (by kernel_rfl) (by kernel_rfl) (by kernel_rfl) (e := add64Entry) (by kernel_rfl), run_add64 x y c (by omega) (by omega) (by omega) (by omega)]
  simp only [Result.andThen]
  have e1 : ((addLo x y c : Nat) : Int) = ((x : Int) + y + c) % 18446744073709551616 := by unfold addLo Q; omega
  have e2 : ((addCy x y c : Nat) : Int) = ((x : Int) + y + c) / 18446744073709551616 := by unfold addCy Q; omega
  rw [e1, e2]
theorem add64_0 (x y : Nat) (w : World) : (callFunc 114 #[.int .u64 (x : Int), .int .u64 (y : Int), .int .u64 0]).run Tryz.prog w =
    .ok (.value (.tuple #[.int .u64 ((addLo x y 0 : Nat) : Int), .int .u64 ((addCy x y 0 : Nat) : Int)])) w := add64 x y 0 (by omega) w
theorem sub64 (x y b : Nat) (hb : b ≤ 1) (w : World) : (callFunc 126 #[.int .u64 (x : Int), .int .u64 (y : Int), .int .u64 (b : Int)]).run Tryz.prog w =
    .ok (.value (.tuple #[.int .u64 ((subLo x y b : Nat) : Int), .int .u64 ((subBw x y b : Nat) : Int)])) w := by
  rw [run_callFunc_extern Tryz.func126 (by kernel_rfl) (by kernel_rfl) (by kernel_rfl) (e := sub64Entry) (by kernel_rfl), run_sub64 x y b hb]
  rfl
set_option maxHeartbeats 1000000 in
theorem mul64 (x y : Nat) (hx : x < Q) (hy : y < Q) (w : World) :
    Calls Tryz.prog 113 #[.int .u64 (x : Int), .int .u64 (y : Int)] w fun e w' => e = .returned (.tuple #[.int .u64 ((mulHi x y : Nat) : Int), .int .u64 ((mulLo x y : Nat) : Int)]) ∧ w = w' := by
  unfold Q at hx hy
  obtain ⟨bd, bt, bw, hhi⟩ := Lib.mul64_hi x y hx hy
  have ba := Lib.half_mul_le (a := x / 4294967296) (b := y / 4294967296) (by omega) (by omega)
  have bb := Lib.half_mul_le (a := x / 4294967296) (b := y % 4294967296) (by omega) (by omega)
  have bc := Lib.half_mul_le (a := x % 4294967296) (b := y / 4294967296) (by omega) (by omega)
  have ba' : x / 4294967296 * (y / 4294967296) < 18446744073709551616 := by omega
  have bb' : x / 4294967296 * (y % 4294967296) < 18446744073709551616 := by omega
  have bc' : x % 4294967296 * (y / 4294967296) < 18446744073709551616 := by omega
  have bh1 : x / 4294967296 * (y / 4294967296) + (x / 4294967296 * (y % 4294967296) + x % 4294967296 * (y % 4294967296) / 4294967296) / 4294967296 < 18446744073709551616 := by omega
  have bh : x / 4294967296 * (y / 4294967296) + (x / 4294967296 * (y % 4294967296) + x % 4294967296 * (y % 4294967296) / 4294967296) / 4294967296 + ((x / 4294967296 * (y % 4294967296) + x % 4294967296 * (y % 4294967296) / 4294967296) % 4294967296 + x % 4294967296 * (y / 4294967296)) / 4294967296 < 18446744073709551616 := by omega
  go_enter Tryz.func113, Tryz.ntmps113
  go_wp2
  simp only [Mul64.maskN x hx, Mul64.maskN y hy, Mul64.divN, Mul64.mulN, Mul64.addN, Mul64.wrapN _ bd, Mul64.wrapN _ bb', Mul64.wrapN _ bt, Mul64.maskN _ bt, Mul64.wrapN _ bc', Mul64.wrapN _ bw, Mul64.wrapN _ ba', Mul64.wrapN _ bh1, Mul64.wrapN _ bh, Mul64.wrapM (x * y)]
  rw [hhi]
  go_ret2
  exact ⟨rfl, rfl⟩
set_option maxRecDepth 100000
theorem info_u64 : (Tryz.prog.info? 62).map (fun i => (i.zero, i.size, i.bytes)) = some (some (.int .u64 0), 1, 8) := by kernel_rfl
theorem make_u64 (n : Nat) (hn : n ≤ 35184372088832) (u : World) : (Instr.makeSlice 32 (.int .i64 (n : Int)) (.int .i64 (n : Int))).run Tryz.prog u =
    .ok (.slice (some ⟨u.heap.size, 0, none⟩) n n) (u.alloc (.cells (madeCells #[.int .u64 0] n) 62)) := by
  obtain ⟨i0, hi, hz0, hz1, hz2⟩ := info_parts info_u64
  have h := run_make (P := Tryz.prog) u 32 62 i0 (.int .u64 0) Tryz.underlying32 hi hz0 .i64 .i64 (n : Int) (n : Int) (by omega) (Int.le_refl _) (by rw [hz2]; omega) (by omega)
  have e : (n : Int).toNat = n := by omega
  rw [e] at h
  simpa [hz1, Value.cells] using h
def OwnRet (k : IntKind) (t : TypeId) (w : World) (zs : List Nat) (e : Ending) (w' : World) : Prop := ∃ v, e = .returned v ∧ Own k t w' w.heap.size v zs ∧ Below w.heap.size w w'
theorem take_next (xs : List Nat) (k x : Nat) (h : xs.getD k 0 = x) : vl Q (xs.take (k + 1)) = vl Q (xs.take k) + Q ^ k * x := by rw [vl_take_succ, h]
theorem add_step {k x y c : Nat} {zs xs ys : List Nat} (hz : zs.length = k) (hx : xs.getD k 0 = x) (hy : ys.getD k 0 = y)
    (h : vl Q zs + Q ^ k * c = vl Q (xs.take k) + vl Q (ys.take k)) :
    vl Q (zs ++ [addLo x y c]) + Q ^ (k + 1) * addCy x y c = vl Q (xs.take (k + 1)) + vl Q (ys.take (k + 1)) := by
  rw [vl_snoc, hz, take_next xs k x hx, take_next ys k y hy, Nat.pow_succ]
  have e := add_spec x y c
  have e2 : Q ^ k * addLo x y c + Q ^ k * Q * addCy x y c = Q ^ k * x + Q ^ k * y + Q ^ k * c := by
    rw [Nat.mul_assoc, ← Nat.mul_add, e, Nat.mul_add, Nat.mul_add]
  omega
def cmpN (x y : Nat) : Int := if x < y then -1 else if y < x then 1 else 0
theorem cmpN_lt {x y : Nat} (h : x < y) : cmpN x y = -1 := by unfold cmpN; rw [if_pos h]
theorem cmpN_gt {x y : Nat} (h : y < x) : cmpN x y = 1 := by unfold cmpN; rw [if_neg (by omega), if_pos h]
theorem cmpN_eq (x : Nat) : cmpN x x = 0 := by unfold cmpN; rw [if_neg (by omega), if_neg (by omega)]
theorem compare_any (x y : Nat) (w : World) : Calls Tryz.prog 95 #[.int .u64 (x : Int), .int .u64 (y : Int)] w fun e w' => e = .returned (.int .i64 (cmpN x y)) ∧ w = w' := by
  rcases Nat.lt_trichotomy x y with h | h | h
  · have e := hide (cmpN_lt h)
    go_enter Tryz.func95, Tryz.ntmps95
    go_wp2
    go_ret
    exact ⟨by rw [e.out]; rfl, rfl⟩
  · subst h
    have e := hide (cmpN_eq x)
    go_enter Tryz.func95, Tryz.ntmps95
    go_wp2
    go_ret
    exact ⟨by rw [e.out]; rfl, rfl⟩
  · have e := hide (cmpN_gt h)
    go_enter Tryz.func95, Tryz.ntmps95
    go_wp2
    go_ret
    exact ⟨by rw [e.out]; rfl, rfl⟩
theorem vl_cut (B : Nat) (xs : List Nat) (k : Nat) : vl B xs = vl B (xs.take k) + B ^ k * vl B (xs.drop k) := by
  rcases Nat.le_total k xs.length with h | h
  · exact vl_split B xs k h
  · rw [List.take_of_length_le h, List.drop_eq_nil_of_le h]; simp [vl]
theorem vl_drop (B : Nat) (xs : List Nat) (k : Nat) : vl B (xs.drop k) = xs.getD k 0 + B * vl B (xs.drop (k + 1)) := by
  rcases Nat.lt_or_ge k xs.length with h | h
  · rw [List.drop_eq_getElem_cons h]; simp [vl, List.getD_eq_getElem?_getD, h]
  · rw [List.drop_eq_nil_of_le h, List.drop_eq_nil_of_le (by omega)]; simp [vl, List.getD_eq_getElem?_getD, List.getElem?_eq_none h]
theorem vl_take_lt {B : Nat} {xs : List Nat} (hB : 0 < B) (h : Dg B xs) (k : Nat) : vl B (xs.take k) < B ^ k :=
  Nat.lt_of_lt_of_le (vl_lt (h.take k)) (Nat.pow_le_pow_right hB (by rw [List.length_take]; omega))
theorem vl_less {B k x y : Nat} {xs ys : List Nat} (hB : 0 < B) (dx : Dg B xs) (hx : xs.getD k 0 = x) (hy : ys.getD k 0 = y) (h : vl B (xs.drop (k + 1)) = vl B (ys.drop (k + 1))) (hlt : x < y) : vl B xs < vl B ys := by
  rw [vl_cut B xs k, vl_cut B ys k, vl_drop B xs k, vl_drop B ys k, hx, hy, h]
  have h1 := vl_take_lt hB dx k
  have h2 : B ^ k * (x + B * vl B (ys.drop (k + 1)) + 1) ≤ B ^ k * (y + B * vl B (ys.drop (k + 1))) := Nat.mul_le_mul_left _ (by omega)
  rw [Nat.mul_add _ _ 1, Nat.mul_one] at h2
  omega
set_option maxHeartbeats 1000000 in
theorem cmp_any (B : Nat) (A D : Option Addr) (n c m d : Nat) (xs ys : List Nat) (w : World) (hx : Rd .u64 w B A n xs) (hy : Rd .u64 w B D m ys)
    (dx : Dg Q xs) (dy : Dg Q ys) (hn : n ≤ maxLen) (hm : m ≤ maxLen) :
    Calls Tryz.prog 70 #[.slice A n c, .slice D m d] w fun e w' => e = .returned (.int .i64 (cmpN (vl Q xs) (vl Q ys))) ∧ w = w' := by
  have hnl := hn
  have hml := hm
  unfold maxLen at hn hm
  have lx := hx.1
  have ly := hy.1
  obtain ⟨M, hM⟩ : ∃ M, M = max n m := ⟨_, rfl⟩
  have hxM : xs.length ≤ M := by omega
  have hyM : ys.length ≤ M := by omega
  clear lx ly
  rcases Nat.lt_or_ge n m with hnm | hnm
  case' inl => obtain rfl : M = m := by omega
  case' inr => obtain rfl : M = n := by omega
  all_goals
    clear hM
    have e0 : Hid (vl Q (xs.drop M) = vl Q (ys.drop M)) := hide (by rw [List.drop_eq_nil_of_le hxM, List.drop_eq_nil_of_le hyM])
    go_enter Tryz.func70, Tryz.ntmps70
    go_wp2_with fail
    go_loop [5] (fun iv => ∃ k : Nat, k ≤ M ∧ iv = .int .i64 ((k : Int) - 1) ∧ Hid (vl Q (xs.drop k) = vl Q (ys.drop k))) (fun iv => (intOf iv + 1).toNat)
    case atStart => exact ⟨M, Nat.le_refl _, rfl, e0⟩
    case round =>
      obtain ⟨k, hk, rfl, hv⟩ := hrel
      rcases Nat.eq_zero_or_pos k with h0 | h0
      · subst h0
        have e := hv.out
        rw [List.drop_zero, List.drop_zero] at e
        have e2 := hide (cmpN_eq (vl Q ys))
        rw [← e] at e2
        go_wp2_with fail
        go_ret
        exact ⟨by rw [← e, e2.out]; rfl, rfl⟩
      · obtain ⟨j, rfl⟩ : ∃ j, k = j + 1 := ⟨k - 1, by omega⟩
        have ej : ((j + 1 : Nat) : Int) - 1 = (j : Int) := by omega
        rw [ej]
        obtain ⟨x, ex⟩ : ∃ x, Hid (xs.getD j 0 = x) := ⟨_, hide rfl⟩
        obtain ⟨y, ey⟩ : ∃ y, Hid (ys.getD j 0 = y) := ⟨_, hide rfl⟩
        rcases Nat.lt_trichotomy x y with h | h | h
        · have e1 := hide (cmpN_lt h)
          have e2 := hide (cmpN_lt (vl_less Q_pos dx ex.out ey.out hv.out h))
          have hcmp := compare_any x y w
          rw [e1.out] at hcmp
          clear ej e0
          go_wp2_with (first
            | (go_at_call 96; (with_reducible refine (at_get B A _ c xs j x _ hx hnl ex).mono ?_); rintro e w' ⟨rfl, rfl⟩)
            | (go_at_call 96; (with_reducible refine (at_get B D _ d ys j y _ hy hml ey).mono ?_); rintro e w' ⟨rfl, rfl⟩)
            | (go_at_call 95; refine hcmp.mono ?_; rintro e w' ⟨rfl, rfl⟩))
          go_ret
          exact ⟨by rw [e2.out]; rfl, rfl⟩
        · subst h
          have hcmp := compare_any x x w
          rw [cmpN_eq] at hcmp
          have e2 : Hid (vl Q (xs.drop j) = vl Q (ys.drop j)) := hide (by rw [vl_drop Q xs j, vl_drop Q ys j, ex.out, ey.out, hv.out])
          clear ej e0
          go_wp2_with (first
            | (go_at_call 96; (with_reducible refine (at_get B A _ c xs j x _ hx hnl ex).mono ?_); rintro e w' ⟨rfl, rfl⟩)
            | (go_at_call 96; (with_reducible refine (at_get B D _ d ys j x _ hy hml ey).mono ?_); rintro e w' ⟨rfl, rfl⟩)
            | (go_at_call 95; refine hcmp.mono ?_; rintro e w' ⟨rfl, rfl⟩))
          go_round
          case rel => exact ⟨j, by omega, rfl, e2⟩
          case measure => simp [intOf]
        · have e1 := hide (cmpN_gt h)
          have e2 := hide (cmpN_gt (vl_less Q_pos dy ey.out ex.out hv.out.symm h))
          have hcmp := compare_any x y w
          rw [e1.out] at hcmp
          clear ej e0
          go_wp2_with (first
            | (go_at_call 96; (with_reducible refine (at_get B A _ c xs j x _ hx hnl ex).mono ?_); rintro e w' ⟨rfl, rfl⟩)
            | (go_at_call 96; (with_reducible refine (at_get B D _ d ys j y _ hy hml ey).mono ?_); rintro e w' ⟨rfl, rfl⟩)
            | (go_at_call 95; refine hcmp.mono ?_; rintro e w' ⟨rfl, rfl⟩))
          go_ret
          exact ⟨by rw [e2.out]; rfl, rfl⟩
theorem at_step {k v wv z ov : Nat} {us zs ys : List Nat} (hu : us.length = k) (hz : zs.getD k 0 = z) (hy : ys.getD k 0 = v)
    (h : vl Q us + Q ^ k * ov = vl Q (zs.take k) + wv * vl Q (ys.take k)) :
    vl Q (us ++ [addLo z (addLo (mulLo v wv) ov 0) 0]) + Q ^ (k + 1) * (mulHi v wv + addCy (mulLo v wv) ov 0 + addCy z (addLo (mulLo v wv) ov 0) 0)
      = vl Q (zs.take (k + 1)) + wv * vl Q (ys.take (k + 1)) := by
  rw [vl_snoc, hu, take_next zs k z hz, take_next ys k v hy, Nat.pow_succ]
  have e1 := mul_spec v wv
  have e2 := add_spec (mulLo v wv) ov 0
  have e3 := add_spec z (addLo (mulLo v wv) ov 0) 0
  generalize addLo (mulLo v wv) ov 0 = l1 at *
  generalize addCy (mulLo v wv) ov 0 = c1 at *
  generalize addLo z l1 0 = l2 at *
  generalize addCy z l1 0 = c2 at *
  generalize mulHi v wv = hi at *
  generalize mulLo v wv = lo at *
  have key : l2 + Q * (hi + c1 + c2) = z + ov + v * wv := by
    rw [Nat.mul_add, Nat.mul_add]; omega
  have e4 : Q ^ k * l2 + Q ^ k * Q * (hi + c1 + c2) = Q ^ k * z + Q ^ k * ov + wv * (Q ^ k * v) := by
    rw [Nat.mul_assoc, ← Nat.mul_add, key, Nat.mul_add, Nat.mul_add, Nat.mul_comm v wv, Nat.mul_left_comm wv]
  rw [Nat.mul_add wv]
  omega
theorem at_bound {v wv z ov : Nat} (hv : v < Q) (hw : wv < Q) (hz : z < Q) (ho : ov < Q) :
    mulHi v wv + addCy (mulLo v wv) ov 0 + addCy z (addLo (mulLo v wv) ov 0) 0 < Q := by
  have e1 := mul_spec v wv
  have e2 := add_spec (mulLo v wv) ov 0
  have e3 := add_spec z (addLo (mulLo v wv) ov 0) 0
  have h := mul_add_two hv hw hz ho
  have key : Q * (mulHi v wv + addCy (mulLo v wv) ov 0 + addCy z (addLo (mulLo v wv) ov 0) 0) ≤ v * wv + z + ov := by
    rw [Nat.mul_add, Nat.mul_add]; omega
  exact Nat.lt_of_mul_lt_mul_left (Nat.lt_of_le_of_lt key h)
def AtRet (t : TypeId) (w : World) (g off : Nat) (C : Array Value) (n S : Nat) (e : Ending) (w' : World) : Prop :=
  ∃ (ov : Nat) (us : List Nat), e = .returned (.int .u64 (ov : Int)) ∧ ov < Q ∧ us.length = n ∧ Dg Q us ∧ vl Q us + Q ^ n * ov = S ∧ Row .u64 t w' g off C us ∧ w.grownBy w' (some g)
def AtRel (w : World) (g off n wv : Nat) (C : Array Value) (zs ys : List Nat) (cv iv : Value) (wr : World) : Prop :=
  ∃ (k ov : Nat) (us : List Nat), k ≤ n ∧ iv = .int .i64 (k : Int) ∧ cv = .int .u64 (ov : Int) ∧ ov < Q ∧ us.length = k ∧ Dg Q us ∧
    Hid (vl Q us + Q ^ k * ov = vl Q (zs.take k) + wv * vl Q (ys.take k)) ∧ Row .u64 62 wr g off C (us ++ zs.drop k) ∧ w.grownBy wr (some g)
theorem drop_set (us zs : List Nat) {k : Nat} (hu : us.length = k) (hk : k < zs.length) (x : Nat) : (us ++ zs.drop k).set k x = us ++ [x] ++ zs.drop (k + 1) := by
  subst hu
  rw [List.drop_eq_getElem_cons hk, List.set_append_right _ _ (Nat.le_refl _), Nat.sub_self, List.set_cons_zero]
  simp
theorem drop_getD (us zs : List Nat) {k : Nat} (hu : us.length = k) : (us ++ zs.drop k).getD k 0 = zs.getD k 0 := by
  simp only [List.getD_eq_getElem?_getD]
  rw [List.getElem?_append_right (by omega), List.getElem?_drop, hu]
  simp
set_option maxHeartbeats 2000000 in
theorem addTimes_any (B g off n c d wv : Nat) (D : Option Addr) (C : Array Value) (zs ys : List Nat) (w : World)
    (hr : Row .u64 62 w g off C zs) (hzn : zs.length = n) (hy : Rd .u64 w B D n ys) (hB : B ≤ w.heap.size) (hD : 0 < n → ∀ a, D = some a → a.block ≠ g)
    (dz : Dg Q zs) (dy : Dg Q ys) (hw : wv < Q) (hn : n ≤ 9223372036854775807) :
    Calls Tryz.prog 97 #[.slice (some ⟨g, off, none⟩) n c, .slice D n d, .int .u64 (wv : Int)] w (AtRet 62 w g off C n (vl Q zs + wv * vl Q ys)) := by
  have e0 : Hid (vl Q ([] : List Nat) + Q ^ 0 * 0 = vl Q (zs.take 0) + wv * vl Q (ys.take 0)) := hide (by simp [vl])
  have hzn' := hide hzn
  clear hzn
  go_enter Tryz.func97, Tryz.ntmps97
  go_wp2_with fail
  go_loopw [7, 15] (fun cv iv wr => AtRel w g off n wv C zs ys cv iv wr) (fun _ iv _ => n - (intOf iv).toNat)
  case atStart => exact ⟨0, 0, [], by omega, rfl, rfl, Q_pos, rfl, Dg.nil, e0, by simpa using hr, only_refl _ _⟩
  case round =>
    obtain ⟨k, ov, us, hk, rfl, rfl, hov, hu, du, hv, hrow, hg⟩ := hrel
    by_cases hlt : k < n
    · have hkz : k < zs.length := by rw [hzn'.out]; exact hlt
      obtain ⟨z, ez⟩ : ∃ z, Hid (zs.getD k 0 = z) := ⟨_, hide rfl⟩
      obtain ⟨v, ev⟩ : ∃ v, Hid (ys.getD k 0 = v) := ⟨_, hide rfl⟩
      have hy2 := hy.grownOff hg hB (hD (by omega))
      obtain ⟨bb, bo, rfl, _, hcy⟩ := hy2.at_ hlt
      rw [ev.out] at hcy
      have hll : k < (us ++ zs.drop k).length := by simp; omega
      have hcell := hrow.cell hll
      rw [drop_getD us zs hu, ez.out] at hcell
      have hfr := hrow.frozen (off + k)
      have bz : z < Q := by rw [← ez.out]; exact dz.getD Q_pos k
      have bv : v < Q := by rw [← ev.out]; exact dy.getD Q_pos k
      have hst := hrow.set_ hll (addLo z (addLo (mulLo v wv) ov 0) 0)
      rw [drop_set us zs hu hkz] at hst
      have hv2 := hide (at_step hu ez.out ev.out hv.out)
      have hbd := at_bound bv hw bz hov
      have hg2 := only_set (p := ⟨g, off + k, none⟩) hg rfl (.int .u64 ((addLo z (addLo (mulLo v wv) ov 0) 0 : Nat) : Int))
      have fin : AtRel w g off n wv C zs ys (.int .u64 ((mulHi v wv + addCy (mulLo v wv) ov 0 + addCy z (addLo (mulLo v wv) ov 0) 0 : Nat) : Int)) (.int .i64 ((k + 1 : Nat) : Int))
          (wr.setCell ⟨g, off + k, none⟩ (.int .u64 ((addLo z (addLo (mulLo v wv) ov 0) 0 : Nat) : Int))) :=
        ⟨k + 1, _, _, by omega, rfl, rfl, hbd, by simp [hu], du.append (Dg.cons (addLo_lt _ _ _) Dg.nil), hv2, hst, hg2⟩
      have hm := mul64 v wv bv hw wr
      have a1 := add64_0 (mulLo v wv) ov
      have a2 := add64_0 z (addLo (mulLo v wv) ov 0)
      generalize addLo z (addLo (mulLo v wv) ov 0) 0 = l2 at *
      generalize addCy z (addLo (mulLo v wv) ov 0) 0 = c2 at *
      generalize addLo (mulLo v wv) ov 0 = l1 at *
      generalize addCy (mulLo v wv) ov 0 = c1 at *
      generalize mulLo v wv = lo at *
      generalize mulHi v wv = hi at *
      have b1 : (hi : Int) + (c1 : Int) + (c2 : Int) ≤ 18446744073709551615 := by unfold Q at hbd; omega
      clear hst hv2 hg2 hbd hu du hv hrow hg hll hkz bz bv hy hy2 hB hD dz dy hw hr e0 hzn' hov ez ev
      go_wp2_with (go_at_call 113; refine hm.mono ?_; rintro e w' ⟨rfl, rfl⟩)
      go_roundw
      case rel => exact fin
      case measure => simp [intOf]; omega
    · obtain rfl : k = n := by omega
      have e := hv.out
      rw [List.take_of_length_le (by rw [hzn'.out]; exact Nat.le_refl _), List.take_of_length_le (by rw [hy.1]; exact Nat.le_refl _)] at e
      rw [List.drop_eq_nil_of_le (by rw [hzn'.out]; exact Nat.le_refl _), List.append_nil] at hrow
      have fin : AtRet 62 w g off C k (vl Q zs + wv * vl Q ys) (.returned (.int .u64 (ov : Int))) wr := ⟨ov, us, rfl, hov, hu, du, e, hrow, hg⟩
      clear e hrow hv hu du hg hy hB hD dz dy hw hr e0 hzn' hov
      go_wp2_with fail
      go_ret
      exact fin
theorem clip_get (B : Nat) (A : Option Addr) (n c : Nat) (xs : List Nat) (w : World) (h : Rd .u64 w B A n xs) (hnc : n ≤ c) (hc : c ≤ maxLen) :
    ∃ A' c', (tz xs).length ≤ c' ∧ c' ≤ maxLen ∧ Rd .u64 w B A' (tz xs).length (tz xs) ∧ (∀ a, A' = some a → A = some a) ∧
      Calls Tryz.prog 90 #[.slice A n c] w fun e w' => e = .returned (.slice A' (tz xs).length c') ∧ w = w' := by
  have hcl := clip_any B A n c xs w h hnc hc
  have hl := tz_length_le xs
  have hn := h.1
  rcases Nat.eq_zero_or_pos (tz xs).length with h0 | h0
  · rw [h0, clipV_zero] at hcl
    rw [h0, List.eq_nil_of_length_eq_zero h0]
    exact ⟨none, 0, Nat.le_refl _, by simp [maxLen], Rd.nil, (fun a h => by cases h), hcl⟩
  · rw [clipV_pos _ _ h0] at hcl
    refine ⟨A, c, by omega, hc, ?_, fun a h => h, hcl⟩
    have h1 := h.first (m := (tz xs).length) (by omega)
    rw [← tz_take] at h1
    exact h1
def MulRel (w : World) (p q bv : Nat) (xs : List Nat) (iv : Value) (wr : World) : Prop :=
  ∃ (k : Nat) (us : List Nat), k ≤ p ∧ iv = .int .i64 (k : Int) ∧ us.length = k + q ∧ Dg Q us ∧ Hid (vl Q us = vl Q (xs.take k) * bv) ∧
    Row .u64 62 wr w.heap.size 0 (madeCells #[.int .u64 0] (p + q)) (us ++ List.replicate (p - k) 0) ∧ Below w.heap.size w wr
theorem mul_step {k q x bv ov : Nat} {us vs xs ys : List Nat} (hu : us.length = k + q) (hv : vs.length = q) (hx : xs.getD k 0 = x) (hb : bv = vl Q ys)
    (h : vl Q us = vl Q (xs.take k) * bv) (ha : vl Q vs + Q ^ q * ov = vl Q (us.drop k) + x * vl Q ys) :
    vl Q (us.take k ++ vs ++ [ov]) = vl Q (xs.take (k + 1)) * bv := by
  have hl : (us.take k).length = k := by rw [List.length_take]; omega
  rw [take_next xs k x hx, vl_snoc, vl_append, List.length_append, hl, hv]
  have e1 := vl_split Q us k (by omega)
  have e2 : Q ^ k * vl Q vs + Q ^ (k + q) * ov = Q ^ k * vl Q (us.drop k) + Q ^ k * x * bv := by
    rw [Nat.pow_add, Nat.mul_assoc, ← Nat.mul_add, ha, Nat.mul_add, hb, Nat.mul_assoc]
  rw [Nat.add_mul, ← h]
  omega
set_option maxHeartbeats 2000000 in
theorem mul_any (A D : Option Addr) (n c m d : Nat) (xs ys : List Nat) (w : World) (hx : Rd .u64 w w.heap.size A n xs) (hy : Rd .u64 w w.heap.size D m ys)
    (dx : Dg Q xs) (dy : Dg Q ys) (hnc : n ≤ c) (hc : c ≤ maxLen) (hmd : m ≤ d) (hd : d ≤ maxLen) (hn : n ≤ 17592186044416) (hm : m ≤ 17592186044416) :
    Calls Tryz.prog 72 #[.slice A n c, .slice D m d] w (OwnRet .u64 62 w (cn Q (vl Q xs * vl Q ys))) := by
  obtain ⟨A', c', hpc, hcm, hx', -, cx⟩ := clip_get _ A n c xs w hx hnc hc
  obtain ⟨D', d', hqd, hdm, hy', -, cy⟩ := clip_get _ D m d ys w hy hmd hd
  rw [← tz_vl Q xs, ← tz_vl Q ys]
  have lx := tz_length_le xs
  have ly := tz_length_le ys
  have hx1 := hx.1
  have hy1 := hy.1
  have dx := tz_dg dx
  have dy := tz_dg dy
  generalize tz xs = xs at *
  generalize tz ys = ys at *
  obtain ⟨p, hp⟩ : ∃ p, p = xs.length := ⟨_, rfl⟩
  obtain ⟨q, hq⟩ : ∃ q, q = ys.length := ⟨_, rfl⟩
  rw [← hp] at cx hpc hx' lx
  rw [← hq] at cy hqd hy' ly
  have bp : p ≤ 17592186044416 := by omega
  have bq : q ≤ 17592186044416 := by omega
  have hmk := make_u64 (p + q) (by omega)
  rw [Int.natCast_add] at hmk
  have Hp := hide hp
  have Hq := hide hq
  clear hp hq
  have e0 : Hid (vl Q (List.replicate q 0) = vl Q (xs.take 0) * vl Q ys) := hide (by rw [vl_replicate]; simp [vl])
  clear hx1 hy1 hx hy lx ly hn hm hnc hmd hc hd
  unfold maxLen at hcm hdm
  go_enter Tryz.func72, Tryz.ntmps72
  go_wp2_with (first
    | (go_at_call 90; (with_reducible refine cx.mono ?_); rintro e w' ⟨rfl, rfl⟩)
    | (go_at_call 90; (with_reducible refine cy.mono ?_); rintro e w' ⟨rfl, rfl⟩))
  go_loopw [20] (fun iv wr => MulRel w p q (vl Q ys) xs iv wr) (fun iv _ => p - (intOf iv).toNat)
  case atStart =>
    refine ⟨0, List.replicate q 0, Nat.zero_le _, rfl, by simp, Dg.replicate Q_pos q, e0, ?_, (Below.refl _ _).alloc (Nat.le_refl _) _⟩
    have h := Row.made w .u64 62 (p + q)
    rw [List.replicate_append_replicate, show q + (p - 0) = p + q by omega]
    exact h
  case round =>
    obtain ⟨k, us, hk, rfl, hu, du, hv, hrow, hbel⟩ := hrel
    clear cx cy hmk e0
    by_cases hlt : k < p
    · obtain ⟨r, hr⟩ : ∃ r, p - k = r + 1 := ⟨p - k - 1, by omega⟩
      obtain ⟨x, ex⟩ : ∃ x, Hid (xs.getD k 0 = x) := ⟨_, hide rfl⟩
      have bx : x < Q := by rw [← ex.out]; exact dx.getD Q_pos k
      have hx2 := hx'.below hbel (Nat.le_refl _)
      have hy2 := hy'.below hbel (Nat.le_refl _)
      obtain ⟨bb, bo, rfl, _, hcx⟩ := hx2.at_ hlt
      rw [ex.out] at hcx
      rw [hr] at hrow
      obtain ⟨C', hwin, hback⟩ := hrow.window k q (by rw [fill_len]; omega)
      have ew : ((us ++ List.replicate (r + 1) 0).drop k).take q = us.drop k := by
        rw [List.drop_append_of_le_length (by omega), List.take_append_of_le_length (by simp; omega), List.take_of_length_le (by simp; omega)]
      rw [ew] at hwin
      have ht := addTimes_any w.heap.size w.heap.size k q (p + q - k) d' x D' C' (us.drop k) ys wr hwin (by simp; omega) hy2 hbel.size
        (fun h0 a ha => by
          obtain ⟨b1, o1, h1, h2, _⟩ := hy2.at_ h0
          rw [ha] at h1
          cases h1
          simp; omega)
        (du.drop k) dy bx (by omega)
      have hfr := hrow.frozen (k + q)
      have hback2 : ∀ (W : World) (vs : List Nat) (ov : Nat), AtRet 62 wr w.heap.size k C' q (vl Q (us.drop k) + x * vl Q ys) (.returned (.int .u64 (ov : Int))) W →
          (∃ v0 : Int, W.cell? ⟨w.heap.size, k + q, none⟩ = some (.int .u64 v0)) ∧ W.frozen? ⟨w.heap.size, k + q, none⟩ = false ∧
            MulRel w p q (vl Q ys) xs (.int .i64 ((k + 1 : Nat) : Int)) (W.setCell ⟨w.heap.size, k + q, none⟩ (.int .u64 (ov : Int))) := by
        rintro W _ ov ⟨ov', vs, he, hov, hvl, dv, hsum, hrw, hgr⟩
        have : ov = ov' := by injection he with he; injection he with _ he; omega
        subst this
        have hj := hback W vs hvl hrw
        have ej : (us ++ List.replicate (r + 1) 0).take k ++ vs ++ (us ++ List.replicate (r + 1) 0).drop (k + q) = (us.take k ++ vs) ++ List.replicate (r + 1) 0 := by
          rw [List.take_append_of_le_length (by omega), List.drop_append_of_le_length (by omega), List.drop_eq_nil_of_le (by omega)]; simp
        rw [ej] at hj
        have hlen : (us.take k ++ vs).length = k + q := by simp; omega
        have hjl : k + q < ((us.take k ++ vs) ++ List.replicate (r + 1) 0).length := by rw [fill_len]; omega
        have hc := hj.cell hjl
        have hs := hj.set_ hjl ov
        rw [Nat.zero_add] at hc hs
        have es : ((us.take k ++ vs) ++ List.replicate (r + 1) 0).set (k + q) ov = (us.take k ++ vs ++ [ov]) ++ List.replicate (p - (k + 1)) 0 := by
          rw [← hlen, fill_set]; congr 2; omega
        rw [es] at hs
        refine ⟨⟨_, hc⟩, hj.frozen _, k + 1, us.take k ++ vs ++ [ov], by omega, rfl, by simp; omega, ((du.take k).append dv).append (Dg.cons hov Dg.nil), hide (mul_step hu hvl ex.out rfl hv.out hsum), hs, ?_⟩
        exact (below_only hbel hgr hbel.size (Nat.le_refl _)).setCell (Nat.le_refl _) _
      have hbig : (k : Int) + (q : Int) ≤ (p : Int) + (q : Int) := by omega
      clear hwin hback ew hrow hv hu du hbel ex bx hx2 hy2 dx dy hx' hy' hr Hp Hq hpc hqd
      go_wp2_with (go_at_call 97; refine ht.mono ?_; rintro e W hret; obtain ⟨ov, vs, rfl, hov, hr2⟩ := hret; obtain ⟨⟨v0, hc0⟩, hf0, hrel2⟩ := hback2 W vs ov ⟨ov, vs, rfl, hov, hr2⟩; clear hr2 hov hback2)
      go_roundw
      case rel => exact hrel2
      case measure => simp [intOf]; omega
    · obtain rfl : k = p := by omega
      simp only [Nat.sub_self, List.replicate_zero, List.append_nil] at hrow
      have hcl := clip_any (w.heap.size + 1) (some ⟨w.heap.size, 0, none⟩) (k + q) (k + q) us wr ⟨hu, fun _ => ⟨_, _, rfl, by omega, fun j hj => hrow.cell (by omega)⟩⟩ (Nat.le_refl _) (by unfold maxLen; omega)
      have e := hv.out
      rw [List.take_of_length_le (by rw [← Hp.out]; exact Nat.le_refl _)] at e
      have fin : OwnRet .u64 62 w (cn Q (vl Q xs * vl Q ys)) (.returned (clipV (some ⟨w.heap.size, 0, none⟩) (tz us).length (k + q))) wr := by
        rw [← e, cn_vl Q_two du]
        exact ⟨_, rfl, own_clip hrow (Nat.le_refl _) (by rw [size_madeCells]) (by unfold maxLen; omega), hbel⟩
      clear e hrow hv hu du hbel dx dy hx' hy' Hp Hq hpc hqd
      go_wp2_with (go_at_call 90; refine hcl.mono ?_; rintro e w' ⟨rfl, rfl⟩)
      go_ret
      exact fin
end Go.Proofs.YtpfeacdhplbblaaGreat

namespace Go.Proofs.YtpfeacdhplbblaaGreat
open Go.RowKit
set_option linter.unusedVariables false
theorem run_push {P : Program} {k : IntKind} {t e : TypeId} {i : TypeInfo} {z : Value} {by_ : Nat} (ht : P.underlying t = some (.slice e)) (hi : P.info? e = some i) (hz : i.zero = some z)
    (hsize : i.size = 1) (hby : i.bytes = by_) (hzs : z.cells.size = 1) (ty : TypeId) (wr : World) (B : Nat) (v : Value) (xs : List Nat) (x : Nat) (hown : Own k e wr B v xs)
    (hlen : xs.length + 1 ≤ 17592186044416) (hb8 : by_ ≤ 8) (hB : B ≤ wr.heap.size) :
    ∃ v' w', (Builtin.append_ #[t, t] ty #[v, .slice (some ⟨wr.heap.size, 0, none⟩) 1 1]).run P (wr.alloc (.cells #[.int k (x : Int)] e)) = .ok v' w' ∧ Own k e w' B v' (xs ++ [x]) ∧
      (wr.grownBy w' v.ownBlock ∧ (v'.ownBlock = v.ownBlock ∨ v'.ownBlock = some (wr.heap.size + 1))) := by
  have ho := (hown.alloc (.cells #[.int k (x : Int)] e)).toOwns
  obtain ⟨v', w', hr, h2, h3, -, h5⟩ := run_append_own_at (P := P) (wr.alloc (.cells #[.int k (x : Int)] e)) B t ty e i z 1 by_ ht hi hz hsize hby hzs (by omega) v xs.length _ ho
    ⟨wr.heap.size, 0, none⟩ 1 1 [.int k (x : Int)] rfl (by
      intro j u hj
      match j, hj with
      | 0, hj => simp at hj; subst hj; simp [Addr.add]) (by intro u hu; simp at hu; subst hu; rfl) (by unfold maxLen; omega)
      (by
        have h := Nat.mul_le_mul hlen hb8
        omega) (by simp; omega)
  refine ⟨v', w', hr, Own.ofOwns (n := xs.length + 1) (by simp) (by simpa using h2), ?_, by simpa using h5⟩
  exact only_trans (World.grownBy_alloc wr _ _) h3
theorem wpList_push {P : Program} {ops : Array Oper} {rest : List Oper} {o : Oper} {a : Act} {Q : Exit → Act → World → Prop} (hgd : o.guard = none) (s y : Operand) (t : TypeId)
    (ho : o.op = .call { callee := .builtin .append, args := #[s, y], argTypes := #[t, t] })
    {k : IntKind} {e : TypeId} {i : TypeInfo} {z : Value} {by_ : Nat} (ht : P.underlying t = some (.slice e)) (hi : P.info? e = some i) (hz : i.zero = some z)
    (hsize : i.size = 1) (hby : i.bytes = by_) (hzs : z.cells.size = 1) (wr : World) (B : Nat) (v : Value) (xs : List Nat) (x : Nat)
    (hown : Own k e wr B v xs) (hs : a.eval s = v) (hy : a.eval y = .slice (some ⟨wr.heap.size, 0, none⟩) 1 1)
    (hlen : xs.length + 1 ≤ 17592186044416) (hb8 : by_ ≤ 8) (hB : B ≤ wr.heap.size)
    (h : ∀ v' w', Own k e w' B v' (xs ++ [x]) → (wr.grownBy w' v.ownBlock ∧ (v'.ownBlock = v.ownBlock ∨ v'.ownBlock = some (wr.heap.size + 1))) → wpList P ops Q rest (a.put o.dst v') w') :
    wpList P ops Q (o :: rest) a (wr.alloc (.cells #[.int k (x : Int)] e)) :=
  wpList_plain hgd fun _ hK => by
    obtain ⟨v', w', hr, h2, h3⟩ := run_push (P := P) ht hi hz hsize hby hzs o.type wr B v xs x hown hlen hb8 hB
    unfold Oper.wp execOp
    simp only [ho, resolve, invoke, builtin, Sem.run_bind, Sem.run_pure, Result.andThen_ok, List.map_toArray, List.map_cons, List.map_nil, hs, hy, hr]
    exact hK _ _ (h v' w' h2 h3)
theorem push_below {k : IntKind} {e : TypeId} {w wr w' : World} {B : Nat} {v : Value} {xs : List Nat} (hb : Below B w wr) (hown : Own k e wr B v xs) (hg : wr.grownBy w' v.ownBlock) (hB : B ≤ wr.heap.size) : Below B w w' := by
  refine hb.grown hg hB (fun g hg => ?_)
  rcases hown with ⟨rfl, _⟩ | ⟨g', cap, C, rfl, hB', _⟩
  · simp [Value.ownBlock] at hg
  · simp [Value.ownBlock] at hg; omega
theorem run_clone {P : Program} {k : IntKind} {t e : TypeId} {i : TypeInfo} {z : Value} {by_ : Nat} (ht : P.underlying t = some (.slice e)) (hi : P.info? e = some i) (hz : i.zero = some z)
    (hsize : i.size = 1) (hby : i.bytes = by_) (hzs : z.cells.size = 1) (ty : TypeId) (w : World) (ad : Addr) (n c : Nat) (xs : List Nat) (hx : Rd k w w.heap.size (some ad) n xs)
    (hlen : n ≤ 17592186044416) (hb8 : by_ ≤ 8) :
    ∃ v' w', (Builtin.append_ #[t, t] ty #[.slice (some ⟨w.heap.size, 0, none⟩) 0 0, .slice (some ad) n c]).run P (w.alloc (.cells #[] e)) = .ok v' w' ∧ Own k e w' w.heap.size v' xs ∧ Below w.heap.size w w' := by
  have h0 := World.ownsRow_lit (base := w.heap.size) (e := e) (size := 1) w #[] 0 (Nat.le_refl _) (by simp [maxLen]) rfl
  obtain ⟨v', w', hr, h2, h3, -, h5⟩ := run_append_own_at (P := P) (w.alloc (.cells #[] e)) w.heap.size t ty e i z 1 by_ ht hi hz hsize hby hzs (by omega) _ 0 _ h0
    ad n c (xs.map fun n : Nat => Value.int k (n : Int)) (by simp [hx.1]) (by
      intro j u hj
      have hjn : j < n := by
        rw [List.getElem?_map] at hj
        rcases Nat.lt_or_ge j xs.length with h | h
        · rw [hx.1] at h; exact h
        · rw [List.getElem?_eq_none h] at hj; cases hj
      obtain ⟨b, off, he, hb, hc⟩ := hx.at_ hjn
      cases he
      have hl := hx.1
      rw [List.getElem?_map, List.getElem?_eq_getElem (by omega)] at hj
      simp at hj
      subst hj
      have e1 : (⟨b, off, none⟩ : Addr).add j = ⟨b, off + j, none⟩ := by
        unfold Addr.add
        by_cases h : j = 0
        · subst h; simp
        · simp [h]
      rw [e1, World.cell?_alloc_lt _ _ _ (by simpa using hb), hc]
      simp [List.getD_eq_getElem?_getD, show j < xs.length by omega]) (by intro u hu; simp at hu; obtain ⟨a, _, rfl⟩ := hu; rfl) (by unfold maxLen; omega)
      (by
        have h := Nat.mul_le_mul hlen hb8
        rw [Nat.zero_add]
        omega) (by simp)
  rw [Nat.zero_add] at h2
  refine ⟨v', w', hr, Own.ofOwns (n := n) hx.1.symm (by simpa using h2), ?_⟩
  refine ((Below.refl w.heap.size w).alloc (Nat.le_refl _) _).grown h3 (by simp) (fun g hg => ?_)
  simp [Value.ownBlock] at hg
  omega
theorem wpList_clone {P : Program} {ops : Array Oper} {rest : List Oper} {o : Oper} {a : Act} {Q : Exit → Act → World → Prop} (hgd : o.guard = none) (s y : Operand) (t : TypeId)
    (ho : o.op = .call { callee := .builtin .append, args := #[s, y], argTypes := #[t, t] })
    {k : IntKind} {e : TypeId} {i : TypeInfo} {z : Value} {by_ : Nat} (ht : P.underlying t = some (.slice e)) (hi : P.info? e = some i) (hz : i.zero = some z)
    (hsize : i.size = 1) (hby : i.bytes = by_) (hzs : z.cells.size = 1) (w : World) (ad : Addr) (n c : Nat) (xs : List Nat)
    (hs : a.eval s = .slice (some ⟨w.heap.size, 0, none⟩) 0 0) (hy : a.eval y = .slice (some ad) n c) (hx : Rd k w w.heap.size (some ad) n xs)
    (hlen : n ≤ 17592186044416) (hb8 : by_ ≤ 8)
    (h : ∀ v' w', Own k e w' w.heap.size v' xs → Below w.heap.size w w' → wpList P ops Q rest (a.put o.dst v') w') :
    wpList P ops Q (o :: rest) a (w.alloc (.cells #[] e)) :=
  wpList_plain hgd fun _ hK => by
    obtain ⟨v', w', hr, h2, h3⟩ := run_clone (P := P) ht hi hz hsize hby hzs o.type w ad n c xs hx hlen hb8
    unfold Oper.wp execOp
    simp only [ho, resolve, invoke, builtin, Sem.run_bind, Sem.run_pure, Result.andThen_ok, List.map_toArray, List.map_cons, List.map_nil, hs, hy, hr]
    exact hK _ _ (h v' w' h2 h3)
end Go.Proofs.YtpfeacdhplbblaaGreat

namespace Go.Proofs.YtpfeacdhplbblaaGreat
open Go.RowKit Go.Proofs.YtpfeacdhplbblaaGreat.Num
set_option linter.unusedVariables false
set_option maxRecDepth 100000
def sameB (xs ys : List Nat) : Bool := decide (xs = ys)
theorem sameB_true {xs ys : List Nat} (h : xs = ys) : sameB xs ys = true := by unfold sameB; exact decide_eq_true h
theorem sameB_false {xs ys : List Nat} (h : xs ≠ ys) : sameB xs ys = false := by unfold sameB; exact decide_eq_false h
theorem take_same {xs ys : List Nat} {k x y : Nat} (h : xs.take k = ys.take k) (hx : xs.getD k 0 = x) (hy : ys.getD k 0 = y) (hlx : k < xs.length) (hly : k < ys.length) (e : x = y) : xs.take (k + 1) = ys.take (k + 1) := by
  rw [List.take_succ_eq_append_getElem hlx, List.take_succ_eq_append_getElem hly, h]
  have e1 : xs[k] = x := by simpa [List.getD_eq_getElem?_getD, hlx] using hx
  have e2 : ys[k] = y := by simpa [List.getD_eq_getElem?_getD, hly] using hy
  rw [e1, e2, e]
theorem ne_of_at {xs ys : List Nat} {k x y : Nat} (hx : xs.getD k 0 = x) (hy : ys.getD k 0 = y) (e : x ≠ y) : xs ≠ ys := by
  rintro rfl
  exact e (hx.symm.trans hy)
def QuietRet (w : World) (v : Value) (e : Ending) (w' : World) : Prop := e = .returned v ∧ ∃ m, w' = w.drewN m
set_option maxHeartbeats 1000000 in
theorem same_any (B B' : Nat) (A D : Option Addr) (n c m d : Nat) (xs ys : List Nat) (w : World) (hx : Rd .u64 w B A n xs) (hy : Rd .u64 w B' D m ys) (hn : n ≤ maxLen) (hm : m ≤ maxLen) :
    Calls Tryz.prog 37 #[.slice A n c, .slice D m d] w (QuietRet w (.bool (sameB xs ys))) := by
  unfold maxLen at hn hm
  by_cases hnm : n = m
  · subst hnm
    have hb : (((n : Int) != (n : Int))) = false := by simp
    go_enter Tryz.func37, Tryz.ntmps37
    go_wp2_with fail
    go_loopw [5] (fun iv wr => ∃ k q : Nat, k ≤ n ∧ iv = .int .i64 (k : Int) ∧ Hid (xs.take k = ys.take k) ∧ wr = w.drewN q) (fun iv _ => n - (intOf iv).toNat)
    case atStart => exact ⟨0, 0, Nat.zero_le _, rfl, hide (by simp), rfl⟩
    case round =>
      obtain ⟨k, q, hk, rfl, ht, rfl⟩ := hrel
      by_cases hlt : k < n
      · obtain ⟨x, ex⟩ : ∃ x, Hid (xs.getD k 0 = x) := ⟨_, hide rfl⟩
        obtain ⟨y, ey⟩ : ∃ y, Hid (ys.getD k 0 = y) := ⟨_, hide rfl⟩
        obtain ⟨b1, o1, rfl, _, h1⟩ := hx.at_ hlt
        obtain ⟨b2, o2, rfl, _, h2⟩ := hy.at_ hlt
        rw [ex.out] at h1
        rw [ey.out] at h2
        have lx := hx.1
        have ly := hy.1
        have i0 : (0 : Int) ≤ (k : Int) := by omega
        have i1 : (k : Int) < (n : Int) := by omega
        by_cases hxy : x = y
        · have ht2 := hide (take_same ht.out ex.out ey.out (by omega) (by omega) hxy)
          subst hxy
          clear hx hy ht ex ey lx ly
          go_wp2_with fail
          go_quiet (fail)
          go_wp2_with fail
          go_roundw
          case rel => exact ⟨k + 1, q + nq, by omega, by go_num, ht2, rfl⟩
          case measure => simp [intOf]; omega
        · have hf := hide (sameB_false (ne_of_at ex.out ey.out hxy))
          have hne : ((x : Int) != (y : Int)) = true := by rw [bne_iff_ne]; omega
          clear hx hy ht ex ey lx ly
          go_wp2_with fail
          go_quiet (fail)
          go_wp2_with fail
          go_ret
          exact ⟨by rw [hf.out]; rfl, q + nq, by first | rfl | exact World.drewN_drewN _ _ _⟩
      · obtain rfl : k = n := by omega
        have e := ht.out
        rw [List.take_of_length_le (by rw [hx.1]; exact Nat.le_refl _), List.take_of_length_le (by rw [hy.1]; exact Nat.le_refl _)] at e
        have hf := hide (sameB_true e)
        clear hx hy ht e
        go_wp2_with fail
        go_ret
        exact ⟨by rw [hf.out]; rfl, q, rfl⟩
  · have hf : Hid (sameB xs ys = false) := hide (sameB_false (fun e => hnm (by rw [← hx.1, ← hy.1, e])))
    have hb : (((n : Int) != (m : Int))) = true := by rw [bne_iff_ne]; omega
    go_enter Tryz.func37, Tryz.ntmps37
    go_wp2_with fail
    go_ret
    exact ⟨by rw [hf.out]; rfl, 0, rfl⟩
theorem take_push (xs : List Nat) {k x : Nat} (hk : k < xs.length) (hx : xs.getD k 0 = x) : xs.take k ++ [x] = xs.take (k + 1) := by
  rw [List.take_succ_eq_append_getElem hk]
  have e1 : xs[k] = x := by simpa [List.getD_eq_getElem?_getD, hk] using hx
  rw [e1]
def CopyRel (k0 : IntKind) (t : TypeId) (w : World) (n : Nat) (xs : List Nat) (v iv : Value) (wr : World) : Prop :=
  ∃ k : Nat, k ≤ n ∧ iv = .int .i64 (k : Int) ∧ Own k0 t wr w.heap.size v (xs.take k) ∧ Below w.heap.size w wr
theorem own_empty (k : IntKind) (t : TypeId) (w : World) (B : Nat) (hB : B ≤ w.heap.size) : Own k t (w.alloc (.cells #[] t)) B (.slice (some ⟨w.heap.size, 0, none⟩) 0 0) [] :=
  Own.of_row (Row.new w k t #[] [] (Nat.le_refl _) (fun j hj => absurd hj (by simp))) hB rfl (by simp [maxLen])
set_option maxHeartbeats 1000000 in
theorem copy_any (A : Option Addr) (n c : Nat) (xs : List Nat) (w : World) (hx : Rd .u64 w w.heap.size A n xs) (hn : n ≤ 17592186044000) :
    Calls Tryz.prog 23 #[.slice A n c] w (OwnRet .u64 62 w xs) := by
  obtain ⟨i0, hi, hz0, hz1, hz2⟩ := info_parts info_u64
  go_enter Tryz.func23, Tryz.ntmps23
  go_wp2_with fail
  go_loopw [3, 4] (fun v iv wr => CopyRel .u64 62 w n xs v iv wr) (fun _ iv _ => n - (intOf iv).toNat)
  case atStart => exact ⟨0, Nat.zero_le _, rfl, by simpa using own_empty .u64 62 w w.heap.size (Nat.le_refl _), (Below.refl _ _).alloc (Nat.le_refl _) _⟩
  case round =>
    obtain ⟨k, hk, rfl, hown, hbel⟩ := hrel
    by_cases hlt : k < n
    · obtain ⟨x, ex⟩ : ∃ x, Hid (xs.getD k 0 = x) := ⟨_, hide rfl⟩
      have hx2 := hx.below hbel (Nat.le_refl _)
      obtain ⟨b, o, rfl, hbb, hc⟩ := hx2.at_ hlt
      rw [ex.out] at hc
      have ht := hide (take_push xs (by rw [hx.1]; exact hlt) ex.out)
      have hsz := hbel.size
      have hlen : (xs.take k).length + 1 ≤ 17592186044416 := by rw [List.length_take]; omega
      have fin : ∀ u v' w', Own .u64 62 wr w.heap.size u (xs.take k) → Own .u64 62 w' w.heap.size v' (xs.take k ++ [x]) → wr.grownBy w' u.ownBlock → CopyRel .u64 62 w n xs v' (.int .i64 ((k + 1 : Nat) : Int)) w' := by
        intro u v' w' hu ho hg
        rw [ht.out] at ho
        exact ⟨k + 1, by omega, rfl, ho, push_below hbel hu hg hsz⟩
      have Hown := hide hown
      have Hsz := hide hsz
      have Hlen := hide hlen
      clear hx hx2 hown hbel ht ex hsz hlen hbb
      go_wp2_with (at_builtin; go_must (refine wpList_push rfl (.tmp 12) (.tmp 17) 32 rfl Tryz.underlying32 hi hz0 hz1 hz2 rfl wr w.heap.size _ (xs.take k) x Hown.out rfl rfl Hlen.out (by decide) Hsz.out ?_); intro v' w' ho hg; have fin2 := fin _ v' w' Hown.out ho hg.1; clear fin ho hg)
      go_roundw
      case rel => exact fin2
      case measure => simp [intOf]; omega
    · obtain rfl : k = n := by omega
      rw [List.take_of_length_le (by rw [hx.1]; exact Nat.le_refl _)] at hown
      clear hx
      go_wp2_with fail
      go_ret
      exact ⟨_, rfl, hown, hbel⟩
theorem clone_nil (c : Nat) (w : World) : Calls Tryz.prog 116 #[.slice none 0 c] w fun e w' => e = .returned (.slice none 0 0) ∧ w = w' := by
  have h := Lib.run_eql_slice_nil (P := Tryz.prog) w 32 62 none 0 c 0 0 Tryz.underlying32
  go_enter Tryz.func116, Tryz.ntmps116
  go_wp2_with fail
  go_ret
  exact ⟨rfl, rfl⟩
theorem clone_some (ad : Addr) (n c : Nat) (xs : List Nat) (w : World) (hx : Rd .u64 w w.heap.size (some ad) n xs) (hn : n ≤ 17592186044000) :
    Calls Tryz.prog 116 #[.slice (some ad) n c] w (OwnRet .u64 62 w xs) := by
  obtain ⟨i0, hi, hz0, hz1, hz2⟩ := info_parts info_u64
  have h := Lib.run_eql_slice_nil (P := Tryz.prog) w 32 62 (some ad) n c 0 0 Tryz.underlying32
  have Hx := hide hx
  have Hn : Hid (n ≤ 17592186044416) := hide (by omega)
  clear hx hn
  go_enter Tryz.func116, Tryz.ntmps116
  go_wp2_with (at_builtin; refine wpList_clone rfl (.tmp 5) (.tmp 6) 32 rfl Tryz.underlying32 hi hz0 hz1 hz2 rfl w ad n c xs rfl rfl Hx.out Hn.out (by decide) ?_; intro v' w' ho hb)
  go_ret
  exact ⟨_, rfl, ho, hb⟩
theorem trim_any (A : Option Addr) (n c : Nat) (xs : List Nat) (w : World) (hx : Rd .u64 w w.heap.size A n xs) (dx : Dg Q xs) (hnc : n ≤ c) (hc : c ≤ maxLen) (hn : n ≤ 17592186044000) :
    Calls Tryz.prog 105 #[.slice A n c] w (OwnRet .u64 62 w (cn Q (vl Q xs))) := by
  obtain ⟨A', c', hpc, hcm, hx', -, cx⟩ := clip_get _ A n c xs w hx hnc hc
  rw [cn_vl Q_two dx]
  have hl := tz_length_le xs
  have hxl := hx.1
  generalize tz xs = zs at *
  rcases Nat.eq_zero_or_pos zs.length with h0 | h0
  · obtain rfl := List.eq_nil_of_length_eq_zero h0
    simp only [List.length_nil] at cx hx' hpc
    rcases A' with _ | ad
    · have hcl := clone_nil c' w
      clear hx hx' h0 hl hxl
      go_enter Tryz.func105, Tryz.ntmps105
      go_wp2_with (first
        | (go_at_call 90; (with_reducible refine cx.mono ?_); rintro e w' ⟨rfl, rfl⟩)
        | (go_at_call 116; refine hcl.mono ?_; rintro e w' ⟨rfl, rfl⟩))
      go_ret
      exact ⟨_, rfl, Own.nil, Below.refl _ _⟩
    · have hcl := clone_some ad 0 c' [] w hx' (by omega)
      clear hx hx' h0 hl hxl
      go_enter Tryz.func105, Tryz.ntmps105
      go_wp2_with (first
        | (go_at_call 90; (with_reducible refine cx.mono ?_); rintro e w' ⟨rfl, rfl⟩)
        | (go_at_call 116; refine hcl.mono ?_; rintro e w' ⟨v, rfl, ho, hb⟩))
      go_ret
      exact ⟨_, rfl, ho, hb⟩
  · obtain ⟨b, o, rfl, _, _⟩ := hx'.at_ h0
    have hcl := clone_some ⟨b, o, none⟩ zs.length c' zs w hx' (by omega)
    have Hz := hide (show zs.length = zs.length from rfl)
    obtain ⟨m, hm⟩ : ∃ m, zs.length = m := ⟨_, rfl⟩
    rw [hm] at hcl cx
    clear hx hx' h0 hl hxl hm hpc
    go_enter Tryz.func105, Tryz.ntmps105
    go_wp2_with (first
      | (go_at_call 90; (with_reducible refine cx.mono ?_); rintro e w' ⟨rfl, rfl⟩)
      | (go_at_call 116; refine hcl.mono ?_; rintro e w' ⟨v, rfl, ho, hb⟩))
    go_ret
    exact ⟨_, rfl, ho, hb⟩
def Nw (w : World) (v : Value) (x L : Nat) : Prop :=
  ∃ A n c xs, v = .slice A n c ∧ Rd .u64 w w.heap.size A n xs ∧ Dg Q xs ∧ n ≤ c ∧ c ≤ maxLen ∧ vl Q xs = x ∧ n ≤ L
def Cw (w : World) (v : Value) (x L : Nat) : Prop :=
  ∃ A c, v = .slice A (cn Q x).length c ∧ Rd .u64 w w.heap.size A (cn Q x).length (cn Q x) ∧ (cn Q x).length ≤ c ∧ c ≤ maxLen ∧ (cn Q x).length ≤ L
theorem Nw.step {w w' : World} {v : Value} {x L : Nat} (h : Nw w v x L) (hb : Below w.heap.size w w') : Nw w' v x L := by
  obtain ⟨A, n, c, xs, e, h1, h2⟩ := h
  exact ⟨A, n, c, xs, e, (h1.below hb (Nat.le_refl _)).more hb.size, h2⟩
theorem Cw.step {w w' : World} {v : Value} {x L : Nat} (h : Cw w v x L) (hb : Below w.heap.size w w') : Cw w' v x L := by
  obtain ⟨A, c, e, h1, h2⟩ := h
  exact ⟨A, c, e, (h1.below hb (Nat.le_refl _)).more hb.size, h2⟩
theorem Cw.nw {w : World} {v : Value} {x L : Nat} (h : Cw w v x L) : Nw w v x L := by
  obtain ⟨A, c, e, h1, h2, h3, h4⟩ := h
  exact ⟨A, _, c, _, e, h1, dg_cn Q_two x, h2, h3, vl_cn Q_two x, h4⟩
theorem Nw.lt {w : World} {v : Value} {x L : Nat} (h : Nw w v x L) : x < Q ^ L := by
  obtain ⟨A, n, c, xs, e, h1, dx, _, _, rfl, hL⟩ := h
  have := vl_lt dx
  rw [h1.len] at this
  exact Nat.lt_of_lt_of_le this (Nat.pow_le_pow_right Q_pos hL)
theorem Cw.of {w : World} {B : Nat} {v : Value} {x L : Nat} (h : Own .u64 62 w B v (cn Q x)) (hL : x < Q ^ L) : Cw w v x L := by
  obtain ⟨A, c, rfl, h1, h2, h3, _⟩ := h.form
  exact ⟨A, c, rfl, h3, h1, h2, cn_length_le Q_two hL⟩
theorem mul_n {w : World} {u v : Value} {x y L M : Nat} (hu : Nw w u x L) (hv : Nw w v y M) (hL : L ≤ 17592186044416) (hM : M ≤ 17592186044416) :
    Calls Tryz.prog 72 #[u, v] w fun e w' => ∃ r, e = .returned r ∧ Own .u64 62 w' w.heap.size r (cn Q (x * y)) ∧ Cw w' r (x * y) (L + M) ∧ Below w.heap.size w w' := by
  have lx := hu.lt
  have ly := hv.lt
  obtain ⟨A, n, c, xs, rfl, hx, dx, hc, hc', rfl, hn⟩ := hu
  obtain ⟨D, m, d, ys, rfl, hy, dy, hd, hd', rfl, hm⟩ := hv
  refine (mul_any A D n c m d xs ys w hx hy dx dy hc hc' hd hd' (by omega) (by omega)).mono fun e w' ⟨r, he, ho, hb⟩ => ⟨r, he, ho, Cw.of ho ?_, hb⟩
  rw [Nat.pow_add]
  exact Nat.mul_lt_mul'' lx ly
theorem cmp_n {w : World} {u v : Value} {x y L M : Nat} (hu : Nw w u x L) (hv : Nw w v y M) (hL : L ≤ 35184372088832) (hM : M ≤ 35184372088832) :
    Calls Tryz.prog 70 #[u, v] w fun e w' => e = .returned (.int .i64 (cmpN x y)) ∧ w = w' := by
  obtain ⟨A, n, c, xs, rfl, hx, dx, hc, hc', rfl, hn⟩ := hu
  obtain ⟨D, m, d, ys, rfl, hy, dy, hd, hd', rfl, hm⟩ := hv
  exact cmp_any _ A D n c m d xs ys w hx hy dx dy (by omega) (by omega)
theorem same_c {w : World} {u v : Value} {x y L M : Nat} (hu : Cw w u x L) (hv : Cw w v y M) (hxy : x = y) :
    Calls Tryz.prog 37 #[u, v] w fun e w' => e = .returned (.bool true) ∧ Below w.heap.size w w' := by
  subst hxy
  obtain ⟨A, c, rfl, hx, h1, h2, _⟩ := hu
  obtain ⟨D, d, rfl, hy, h3, h4, _⟩ := hv
  refine (same_any _ _ A D _ c _ d _ _ w hx hy (by omega) (by omega)).mono fun e w' ⟨he, m, hm⟩ => ⟨by rw [he, sameB_true rfl], ?_⟩
  rw [hm]
  exact below_drewN (Below.refl _ _) m
theorem Below.step {B : Nat} {a w w' : World} (h : Below B a w) (hB : B ≤ w.heap.size) (hb : Below w.heap.size w w') : Below B a w' := h.trans (hb.mono hB)
theorem Rd.lit1 (k : IntKind) (w : World) (t : TypeId) (x : Nat) : Rd k (w.alloc (.cells #[.int k (x : Int)] t)) (w.alloc (.cells #[.int k (x : Int)] t)).heap.size (some ⟨w.heap.size, 0, none⟩) 1 [x] :=
  ⟨rfl, fun _ => ⟨w.heap.size, 0, rfl, by simp, fun j hj => by
    obtain rfl : j = 0 := by omega
    simp⟩⟩
theorem cn_lit {B : Nat} (hB : 2 ≤ B) {n : Nat} {ds : List Nat} (hd : Dg B ds) (hv : vl B ds = n) (ht : tz ds = ds) : cn B n = ds := by rw [← hv, cn_vl hB hd, ht]
theorem dg_lit {B : Nat} {ds : List Nat} (h : ds.all (fun d => decide (d < B)) = true) : Dg B ds := fun d hd => by simpa using List.all_eq_true.1 h d hd
theorem Own.step {k : IntKind} {e : TypeId} {w w' : World} {B : Nat} {v : Value} {xs : List Nat} (h : Own k e w B v xs) (hb : Below w.heap.size w w') : Own k e w' B v xs := h.below hb (Nat.le_refl _)
theorem ntrim_n {w : World} {u : Value} {x L : Nat} (hu : Nw w u x L) (hL : L ≤ 17592186044000) :
    Calls Tryz.prog 105 #[u] w fun e w' => ∃ r, e = .returned r ∧ Own .u64 62 w' w.heap.size r (cn Q x) ∧ Cw w' r x L ∧ Below w.heap.size w w' := by
  have hx := hu.lt
  obtain ⟨A, n, c, xs, rfl, hr, dx, h1, h2, rfl, h3⟩ := hu
  exact (trim_any A n c xs w hr dx h1 h2 (by omega)).mono fun e w' ⟨r, he, ho, hb⟩ => ⟨r, he, ho, Cw.of ho hx, hb⟩
end Go.Proofs.YtpfeacdhplbblaaGreat

namespace Go.Proofs.YtpfeacdhplbblaaGreat.Num
section
variable {b Y y1 y0 u z q r : Nat}
theorem est_init (_hb : 0 < b) (hY : Y = y1 * b + y0) (hy0 : y0 < b) (hy1 : b ≤ 2 * y1) (hu : u < Y) (hz : z < b) :
    (u * b + z) / Y ≤ u / y1 ∧ u / y1 ≤ b + 1 := by
  have hp : 0 < y1 := by omega
  constructor
  · rw [Nat.le_div_iff_mul_le hp]
    have h1 : (u * b + z) / Y * Y ≤ u * b + z := Nat.div_mul_le_self _ _
    generalize (u * b + z) / Y = t at *
    rw [hY, Nat.mul_add, ← Nat.mul_assoc] at h1
    have h2 : t * y1 * b < (u + 1) * b := by rw [Nat.add_mul]; omega
    have := Nat.lt_of_mul_lt_mul_right h2
    omega
  · have h1 : u < (b + 2) * y1 := by rw [Nat.add_mul, Nat.mul_comm b y1]; omega
    have := (Nat.div_lt_iff_lt_mul hp).2 h1
    omega
theorem est_more (hY : Y = y1 * b + y0) (hu : u < Y) (hz : z < b) (e : u = q * y1 + r) (h : b ≤ q ∨ b * r + z < q * y0) : u * b + z < q * Y := by
  rcases h with h | h
  · have h1 : b * Y ≤ q * Y := Nat.mul_le_mul_right _ h
    have h2 : b * (u + 1) ≤ b * Y := Nat.mul_le_mul_left _ hu
    rw [Nat.mul_add, Nat.mul_comm b u] at h2
    omega
  · rw [hY, Nat.mul_add, ← Nat.mul_assoc, e, Nat.add_mul, Nat.mul_comm r b]
    omega
theorem est_down (hY : Y = y1 * b + y0) (hu : u < Y) (hz : z < b) (e : u = (q + 1) * y1 + r) (h : b ≤ q + 1 ∨ b * r + z < (q + 1) * y0) : (u * b + z) / Y ≤ q ∧ u = q * y1 + (r + y1) := by
  have h1 := est_more hY hu hz e h
  have hp : 0 < Y := by omega
  have h2 := (Nat.div_lt_iff_lt_mul hp).2 h1
  refine ⟨by omega, ?_⟩
  rw [Nat.add_mul] at e
  omega
theorem est_stop (hY : Y = y1 * b + y0) (hu : u < Y) (e : u = q * y1 + r) (hq : (u * b + z) / Y ≤ q) (h : q * y0 ≤ b * r + z) : q = (u * b + z) / Y := by
  have hp : 0 < Y := by omega
  have h1 : q ≤ (u * b + z) / Y := by
    rw [Nat.le_div_iff_mul_le hp, hY, Nat.mul_add, ← Nat.mul_assoc, e, Nat.add_mul, Nat.mul_comm r b]
    omega
  omega
theorem est_break (hy0 : y0 < b) (hq : q ≤ b) (hr : b ≤ r) : q * y0 ≤ b * r + z := by
  have h1 : q * y0 ≤ b * y0 := Nat.mul_le_mul_right _ hq
  have h2 : b * y0 ≤ b * r := Nat.mul_le_mul_left _ (by omega)
  omega
theorem est_lt (hu : u < Y) (hz : z < b) : (u * b + z) / Y < b := by
  have hp : 0 < Y := by omega
  rw [Nat.div_lt_iff_lt_mul hp]
  have h2 : b * (u + 1) ≤ b * Y := Nat.mul_le_mul_left _ hu
  rw [Nat.mul_add, Nat.mul_comm b u] at h2
  omega
end
theorem two_digits {b Y u z1 z0 q1 u2 q0 u3 : Nat} (hY : 0 < Y) (e1 : u * b + z1 = q1 * Y + u2) (e0 : u2 * b + z0 = q0 * Y + u3) (h3 : u3 < Y) :
    (u * (b * b) + (z1 * b + z0)) / Y = q1 * b + q0 ∧ (u * (b * b) + (z1 * b + z0)) % Y = u3 := by
  have h : u * (b * b) + (z1 * b + z0) = u3 + Y * (q1 * b + q0) := by
    have a1 : (u * b + z1) * b = (q1 * Y + u2) * b := by rw [e1]
    rw [Nat.add_mul, Nat.add_mul, Nat.mul_assoc] at a1
    have a2 : Y * (q1 * b + q0) = q1 * Y * b + q0 * Y := by
      rw [Nat.mul_add, Nat.mul_comm Y q0, ← Nat.mul_assoc, Nat.mul_comm Y q1]
    omega
  rw [h]
  constructor
  · rw [Nat.add_mul_div_left _ _ hY, Nat.div_eq_of_lt h3, Nat.zero_add]
  · rw [Nat.add_mul_mod_self_left, Nat.mod_eq_of_lt h3]
end Go.Proofs.YtpfeacdhplbblaaGreat.Num

