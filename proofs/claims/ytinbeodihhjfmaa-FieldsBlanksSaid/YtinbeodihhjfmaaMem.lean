/-
  Words for memory: a list of numbers that a slice reads as ('Rd'), and a stretch of a block that may be written ('Row'). Proofs about worlds alone: no function of the program here.
-/
import Derived.Test.YtinbeodihhjfmaaNum
import Derived.Below
import Derived.Laws.OwnMore
import Derived.Laws.Rows
import Derived.Deep.Draws
import Derived.OwnWalk
namespace Go.Proofs.Ytinbeodihhjfmaa
open Go.RowKit

theorem hide {p : Prop} (h : p) : Hid p := h

/-- A number as a cell of kind k. -/
abbrev cl (k : IntKind) (n : Nat) : Value := .int k (n : Int)

/-- The slice value '.slice A n c' reads as the numbers xs, of kind k, and lies below block B. -/
def Rd (k : IntKind) (w : World) (B : Nat) (A : Option Addr) (n : Nat) (xs : List Nat) : Prop :=
  xs.length = n ∧ (0 < n → ∃ b off, A = some ⟨b, off, none⟩ ∧ b < B ∧ ∀ j, j < n → w.cell? ⟨b, off + j, none⟩ = some (.int k ((xs.getD j 0 : Nat) : Int)))

section
variable {k : IntKind} {w w' : World} {B B' : Nat} {A : Option Addr} {n : Nat} {xs : List Nat}
theorem Rd.nil : Rd k w B A 0 [] := ⟨rfl, fun h => absurd h (by omega)⟩
theorem Rd.len (h : Rd k w B A n xs) : xs.length = n := h.1
theorem Rd.at_ {i : Nat} (h : Rd k w B A n xs) (hi : i < n) : ∃ b off, A = some ⟨b, off, none⟩ ∧ b < B ∧ w.cell? ⟨b, off + i, none⟩ = some (.int k ((xs.getD i 0 : Nat) : Int)) := by
  obtain ⟨b, off, e, hb, hc⟩ := h.2 (by omega)
  exact ⟨b, off, e, hb, hc i hi⟩
theorem Rd.keep (h : Rd k w B A n xs) (hk : ∀ p : Addr, p.block < B → w'.cell? p = w.cell? p) : Rd k w' B A n xs :=
  ⟨h.1, fun hn => by
    obtain ⟨b, off, e, hb, hc⟩ := h.2 hn
    exact ⟨b, off, e, hb, fun j hj => (hk _ hb).trans (hc j hj)⟩⟩
theorem Rd.more (h : Rd k w B A n xs) (hB : B ≤ B') : Rd k w B' A n xs :=
  ⟨h.1, fun hn => by
    obtain ⟨b, off, e, hb, hc⟩ := h.2 hn
    exact ⟨b, off, e, by omega, hc⟩⟩
theorem Rd.below (h : Rd k w B A n xs) (hb : Below B' w w') (hB : B ≤ B') : Rd k w' B A n xs := h.keep fun _ hp => hb.cell (Nat.lt_of_lt_of_le hp hB)
theorem Rd.drew (h : Rd k w B A n xs) : Rd k w.drew B A n xs := h
theorem Rd.drewN (h : Rd k w B A n xs) (m : Nat) : Rd k (w.drewN m) B A n xs := h
theorem Rd.alloc (h : Rd k w B A n xs) (hB : B ≤ w.heap.size) (o : Obj) : Rd k (w.alloc o) B A n xs := h.keep fun p hp => World.cell?_alloc_lt w o p (by omega)
theorem Rd.setCell (h : Rd k w B A n xs) {p : Addr} (hB : B ≤ p.block) (u : Value) : Rd k (w.setCell p u) B A n xs :=
  h.keep fun q hq => World.cell?_setCell_other w p q u (fun e => by subst e; omega)
theorem Rd.grown (h : Rd k w B A n xs) {row : Option Nat} (hg : w.grownBy w' row) (hB : B ≤ w.heap.size) (hr : ∀ g, row = some g → B ≤ g) : Rd k w' B A n xs :=
  h.keep fun p hp => World.cell?_of_block (hg.block p.block (by omega) (fun e => by have := hr _ e.symm; omega))
/-- Kept where one block is written that is not the slice's own. -/
theorem Rd.grownOff (h : Rd k w B A n xs) {g : Nat} (hg : w.grownBy w' (some g)) (hB : B ≤ w.heap.size) (hA : ∀ a, A = some a → a.block ≠ g) : Rd k w' B A n xs :=
  ⟨h.1, fun hn => by
    obtain ⟨b, off, e, hb, hc⟩ := h.2 hn
    exact ⟨b, off, e, hb, fun j hj => (World.cell?_of_block (hg.block b (by omega) (fun e' => hA _ e (Option.some.inj e')))).trans (hc j hj)⟩⟩
theorem Rd.first (h : Rd k w B A n xs) {m : Nat} (hm : m ≤ n) : Rd k w B A m (xs.take m) :=
  ⟨by rw [List.length_take, h.1]; omega, fun h0 => by
    obtain ⟨b, off, e, hb, hc⟩ := h.2 (by omega)
    refine ⟨b, off, e, hb, fun j hj => ?_⟩
    rw [hc j (by omega)]
    simp [List.getD_eq_getElem?_getD, hj]⟩
end

/-- A block is known: C but for the numbers zs at off. -/
def Row (k : IntKind) (e : TypeId) (w : World) (g off : Nat) (C : Array Value) (zs : List Nat) : Prop :=
  ∃ cs : Array Value, w.heap[g]? = some (.cells cs e (0, 0)) ∧ cs.size = C.size ∧ off + zs.length ≤ C.size ∧
    (∀ j, j < zs.length → cs[off + j]? = some (.int k ((zs.getD j 0 : Nat) : Int))) ∧ ∀ j, j < off ∨ off + zs.length ≤ j → cs[j]? = C[j]?

section
variable {k : IntKind} {e : TypeId} {w w' : World} {g off : Nat} {C : Array Value} {zs : List Nat}
theorem Row.lt (h : Row k e w g off C zs) : g < w.heap.size := by
  obtain ⟨cs, h, _⟩ := h
  rcases Nat.lt_or_ge g w.heap.size with hlt | hge
  · exact hlt
  · rw [Array.getElem?_eq_none hge] at h; cases h
theorem Row.cell (h : Row k e w g off C zs) {j : Nat} (hj : j < zs.length) : w.cell? ⟨g, off + j, none⟩ = some (.int k ((zs.getD j 0 : Nat) : Int)) := by
  obtain ⟨cs, hh, _, _, hc, _⟩ := h
  rw [cell_of_row w g (off + j) cs e (0, 0) hh]
  exact hc j hj
theorem Row.frozen (h : Row k e w g off C zs) (i : Nat) : w.frozen? ⟨g, i, none⟩ = false := by
  obtain ⟨cs, hh, _⟩ := h
  simp [World.frozen?, hh]
theorem Row.keep (h : Row k e w g off C zs) (hk : w'.heap[g]? = w.heap[g]?) : Row k e w' g off C zs := by
  obtain ⟨cs, hh, r⟩ := h
  exact ⟨cs, hk.trans hh, r⟩
theorem Row.below {B : Nat} (h : Row k e w g off C zs) (hb : Below B w w') (hg : g < B) : Row k e w' g off C zs := h.keep (hb.block g hg)
theorem Row.grown {row : Option Nat} (h : Row k e w g off C zs) (hb : w.grownBy w' row) (hg : some g ≠ row) : Row k e w' g off C zs := h.keep (hb.block g h.lt hg)
theorem Row.drew (h : Row k e w g off C zs) : Row k e w.drew g off C zs := h
theorem Row.drewN (h : Row k e w g off C zs) (m : Nat) : Row k e (w.drewN m) g off C zs := h
theorem Row.alloc (h : Row k e w g off C zs) (o : Obj) : Row k e (w.alloc o) g off C zs := h.keep (Below.heap_alloc w o g h.lt)
theorem Row.far (h : Row k e w g off C zs) {p : Addr} (hp : g ≠ p.block) (u : Value) : Row k e (w.setCell p u) g off C zs := h.keep (Below.heap_setCell w p u g hp)
/-- A store into it. -/
theorem Row.set_ (h : Row k e w g off C zs) {j : Nat} (hj : j < zs.length) (x : Nat) : Row k e (w.setCell ⟨g, off + j, none⟩ (.int k (x : Int))) g off C (zs.set j x) := by
  obtain ⟨cs, hh, hs, hl, hc, ho⟩ := h
  refine ⟨cs.setIfInBounds (off + j) (.int k (x : Int)), ?_, by simpa using hs, by simpa using hl, fun i hi => ?_, fun i hi => ?_⟩
  · simp [World.setCell, Array.getElem?_modify, hh]
  · rw [List.length_set] at hi
    rw [Array.getElem?_setIfInBounds]
    by_cases hij : i = j
    · subst hij
      rw [if_pos rfl, if_pos (by omega)]
      simp [List.getD_eq_getElem?_getD, hi]
    · rw [if_neg (by omega), hc i hi]
      simp [List.getD_eq_getElem?_getD, Ne.symm hij]
  · rw [List.length_set] at hi
    rw [Array.getElem?_setIfInBounds, if_neg (by omega)]
    exact ho i hi
/-- A new block of cells. -/
theorem Row.new (w : World) (k : IntKind) (e : TypeId) (C : Array Value) (zs : List Nat) (hz : zs.length ≤ C.size) (hc : ∀ j, j < zs.length → C[j]? = some (.int k ((zs.getD j 0 : Nat) : Int))) :
    Row k e (w.alloc (.cells C e)) w.heap.size 0 C zs :=
  ⟨C, heap_alloc_new w _, rfl, by omega, fun j hj => by rw [Nat.zero_add]; exact hc j hj, fun _ _ => rfl⟩
/-- What 'make' lays: noughts. -/
theorem Row.made (w : World) (k : IntKind) (e : TypeId) (n : Nat) : Row k e (w.alloc (.cells (madeCells #[.int k 0] n) e)) w.heap.size 0 (madeCells #[.int k 0] n) (List.replicate n 0) := by
  refine Row.new w k e _ _ (by simp [size_madeCells]) (fun j hj => ?_)
  rw [List.length_replicate] at hj
  have h := toList_madeCells_one (.int k 0) n
  rw [← Array.getElem?_toList, h]
  simp [hj, List.getD_eq_getElem?_getD]
/-- A stretch of it. -/
theorem Row.part (h : Row k e w g off C zs) (i m : Nat) (hm : i + m ≤ zs.length) : ∃ C', Row k e w g (off + i) C' ((zs.drop i).take m) := by
  obtain ⟨cs, hh, hs, hl, hc, ho⟩ := h
  refine ⟨cs, cs, hh, rfl, by simp; omega, fun j hj => ?_, fun _ _ => rfl⟩
  simp only [List.length_take, List.length_drop] at hj
  rw [Nat.add_assoc, hc (i + j) (by omega)]
  simp [List.getD_eq_getElem?_getD, show j < m by omega]
theorem splice_getD {zs us : List Nat} {i m : Nat} (hu : us.length = m) (hm : i + m ≤ zs.length) (j : Nat) :
    (zs.take i ++ us ++ zs.drop (i + m)).getD j 0 = if j < i then zs.getD j 0 else if j < i + m then us.getD (j - i) 0 else zs.getD j 0 := by
  have hl : (zs.take i).length = i := by rw [List.length_take]; omega
  simp only [List.getD_eq_getElem?_getD, List.append_assoc]
  by_cases h1 : j < i
  · rw [if_pos h1, List.getElem?_append_left (by omega), List.getElem?_take, if_pos h1]
  · rw [if_neg h1, List.getElem?_append_right (by omega), hl]
    by_cases h2 : j < i + m
    · rw [if_pos h2, List.getElem?_append_left (by omega)]
    · rw [if_neg h2, List.getElem?_append_right (by omega), List.getElem?_drop, show i + m + (j - i - us.length) = j by omega]
/-- A stretch of it that may be written, and what the block is when it was. -/
theorem Row.window (h : Row k e w g 0 C zs) (i m : Nat) (hm : i + m ≤ zs.length) : ∃ C', Row k e w g i C' ((zs.drop i).take m) ∧
    ∀ w' us, us.length = m → Row k e w' g i C' us → Row k e w' g 0 C (zs.take i ++ us ++ zs.drop (i + m)) := by
  obtain ⟨cs, hh, hs, hl, hc, ho⟩ := h
  refine ⟨cs, ⟨cs, hh, rfl, by simp; omega, fun j hj => ?_, fun _ _ => rfl⟩, fun w' us hu hr => ?_⟩
  · simp only [List.length_take, List.length_drop] at hj
    have := hc (i + j) (by omega)
    rw [Nat.zero_add] at this
    rw [this]
    simp [List.getD_eq_getElem?_getD, show j < m by omega]
  · obtain ⟨cs', hh', hs', hl', hc', ho'⟩ := hr
    have hlen : (zs.take i ++ us ++ zs.drop (i + m)).length = zs.length := by simp; omega
    refine ⟨cs', hh', hs'.trans hs, by rw [hlen]; exact hl, fun j hj => ?_, fun j hj => ?_⟩
    · rw [hlen] at hj
      rw [Nat.zero_add, splice_getD hu hm]
      have h0 := hc j hj
      rw [Nat.zero_add] at h0
      by_cases h1 : j < i
      · rw [ho' j (Or.inl h1), h0, if_pos h1]
      · rw [if_neg h1]
        by_cases h2 : j < i + m
        · have h3 := hc' (j - i) (by omega)
          rw [show i + (j - i) = j by omega] at h3
          rw [h3, if_pos h2]
        · rw [ho' j (Or.inr (by omega)), h0, if_neg h2]
    · rw [hlen] at hj
      rw [ho' j (by omega)]
      exact ho j hj
/-- Only block g, and what is new, has turned. -/
theorem only_drew {a w : World} {row : Option Nat} (h : a.grownBy w row) : a.grownBy w.drew row := ⟨h.os, h.tape, h.output, h.size, h.block⟩
theorem only_drewN {a w : World} {row : Option Nat} (h : a.grownBy w row) (n : Nat) : a.grownBy (w.drewN n) row := ⟨h.os, h.tape, h.output, h.size, h.block⟩
theorem only_set {a w : World} {g : Nat} (h : a.grownBy w (some g)) {p : Addr} (hp : p.block = g) (u : Value) : a.grownBy (w.setCell p u) (some g) :=
  ⟨h.os, h.tape, h.output, by simpa [World.setCell] using h.size, fun i hi hne => (Below.heap_setCell w p u i (by
    rintro rfl
    exact hne (by rw [hp]))).trans (h.block i hi hne)⟩
theorem only_refl (w : World) (row : Option Nat) : w.grownBy w row := World.grownBy.refl w row
theorem only_trans {a b c : World} {row : Option Nat} (h : a.grownBy b row) (k : b.grownBy c row) : a.grownBy c row :=
  ⟨k.os.trans h.os, k.tape.trans h.tape, k.output.trans h.output, Nat.le_trans h.size k.size, fun i hi hn => (k.block i (Nat.lt_of_lt_of_le hi h.size) hn).trans (h.block i hi hn)⟩
theorem only_below {a b c : World} {row : Option Nat} {B : Nat} (h : a.grownBy b row) (k : Below B b c) (hB : a.heap.size ≤ B) : a.grownBy c row :=
  ⟨k.os.trans h.os, k.tape.trans h.tape, k.output.trans h.output, Nat.le_trans h.size k.size, fun i hi hn => (k.block i (by omega)).trans (h.block i hi hn)⟩
theorem below_only {B : Nat} {a b c : World} {g : Nat} (h : Below B a b) (k : b.grownBy c (some g)) (hB : B ≤ b.heap.size) (hg : B ≤ g) : Below B a c :=
  h.grown k hB (fun _ e => by cases e; exact hg)
theorem below_drewN {B : Nat} {a w : World} (h : Below B a w) (n : Nat) : Below B a (w.drewN n) := ⟨h.os, h.tape, h.output, h.size, h.block⟩
end

/-- The slice value v is the call's own: nil, or a block from B on that holds the numbers xs. -/
def Own (k : IntKind) (e : TypeId) (w : World) (B : Nat) (v : Value) (xs : List Nat) : Prop :=
  (v = .slice none 0 0 ∧ xs = []) ∨ ∃ g cap C, v = .slice (some ⟨g, 0, none⟩) xs.length cap ∧ B ≤ g ∧ Row k e w g 0 C xs ∧ C.size = cap ∧ cap ≤ maxLen

section
variable {k : IntKind} {e : TypeId} {w w' : World} {B : Nat} {v : Value} {xs : List Nat}
theorem Own.nil : Own k e w B (.slice none 0 0) [] := .inl ⟨rfl, rfl⟩
/-- As an argument it reads so. -/
theorem Own.form (h : Own k e w B v xs) : ∃ A c, v = .slice A xs.length c ∧ xs.length ≤ c ∧ c ≤ maxLen ∧ Rd k w w.heap.size A xs.length xs ∧ (∀ a, A = some a → B ≤ a.block ∧ a.block < w.heap.size) := by
  rcases h with ⟨rfl, rfl⟩ | ⟨g, cap, C, rfl, hB, hr, hC, hm⟩
  · exact ⟨none, 0, rfl, Nat.le_refl _, by simp [maxLen], Rd.nil, fun a h => by cases h⟩
  · have hlt := hr.lt
    refine ⟨_, cap, rfl, ?_, hm, ⟨rfl, fun _ => ⟨g, 0, rfl, hlt, fun j hj => hr.cell hj⟩⟩, fun a h => by cases h; exact ⟨hB, hlt⟩⟩
    obtain ⟨cs, _, _, hl, _⟩ := hr
    omega
theorem Own.of_row {g cap : Nat} {C : Array Value} (hr : Row k e w g 0 C xs) (hB : B ≤ g) (hC : C.size = cap) (hm : cap ≤ maxLen) : Own k e w B (.slice (some ⟨g, 0, none⟩) xs.length cap) xs :=
  .inr ⟨g, cap, C, rfl, hB, hr, hC, hm⟩
/-- The first of it. -/
theorem Row.first {g : Nat} {C : Array Value} {off : Nat} (h : Row k e w g off C xs) {m : Nat} (hm : m ≤ xs.length) : ∃ C', C'.size = C.size ∧ Row k e w g off C' (xs.take m) := by
  obtain ⟨cs, hh, hs, hl, hc, ho⟩ := h
  refine ⟨cs, hs, cs, hh, rfl, by simp; omega, fun j hj => ?_, fun _ _ => rfl⟩
  simp only [List.length_take] at hj
  rw [hc j (by omega)]
  simp [List.getD_eq_getElem?_getD, show j < m by omega]
theorem Own.mono {B' : Nat} (h : Own k e w B v xs) (hB : B' ≤ B) : Own k e w B' v xs := by
  rcases h with h | ⟨g, cap, C, rfl, hg, r⟩
  · exact .inl h
  · exact .inr ⟨g, cap, C, rfl, by omega, r⟩
theorem Own.below {B' : Nat} (h : Own k e w B v xs) (hb : Below B' w w') (hB : w.heap.size ≤ B') : Own k e w' B v xs := by
  rcases h with h | ⟨g, cap, C, rfl, hg, hr, r⟩
  · exact .inl h
  · exact .inr ⟨g, cap, C, rfl, hg, hr.below hb (by have := hr.lt; omega), r⟩
theorem Own.drewN (h : Own k e w B v xs) (m : Nat) : Own k e (w.drewN m) B v xs := h
theorem Own.alloc (h : Own k e w B v xs) (o : Obj) : Own k e (w.alloc o) B v xs := by
  rcases h with h | ⟨g, cap, C, rfl, hg, hr, r⟩
  · exact .inl h
  · exact .inr ⟨g, cap, C, rfl, hg, hr.alloc o, r⟩
/-- Kept where another block is written. -/
theorem Own.grown {row : Option Nat} (h : Own k e w B v xs) (hg : w.grownBy w' row) (hne : v.ownBlock = none ∨ v.ownBlock ≠ row) : Own k e w' B v xs := by
  rcases h with h | ⟨g, cap, C, rfl, hB, hr, r⟩
  · exact .inl h
  · refine .inr ⟨g, cap, C, rfl, hB, hr.grown hg ?_, r⟩
    rcases hne with h | h
    · simp [Value.ownBlock] at h
    · simpa [Value.ownBlock] using h
/-- As the library's word has it. -/
theorem Own.toOwns (h : Own k e w B v xs) : w.ownsRow B e 1 v xs.length (xs.map fun n : Nat => Value.int k (n : Int)) := by
  rcases h with ⟨rfl, rfl⟩ | ⟨g, cap, C, rfl, hB, ⟨cs, hh, hs, hl, hc, _⟩, hC, hm⟩
  · exact World.ownsRow_nil _ _ _ _
  · refine ⟨by simp, .inr ⟨g, cap, cs, rfl, hB, hh, by omega, hm, by omega, ?_⟩⟩
    apply List.ext_getElem?
    intro j
    rw [List.getElem?_take]
    by_cases hj : j < xs.length
    · rw [if_pos (by omega), Array.getElem?_toList]
      have := hc j hj
      rw [Nat.zero_add] at this
      rw [this]
      simp [List.getD_eq_getElem?_getD, hj]
    · rw [if_neg (by omega)]
      simp [Nat.le_of_not_lt hj]
theorem Own.ofOwns {n : Nat} (hn : n = xs.length) (h : w.ownsRow B e 1 v n (xs.map fun n : Nat => Value.int k (n : Int))) : Own k e w B v xs := by
  subst hn
  rcases h.2 with ⟨rfl, h0⟩ | ⟨g, cap, cs, rfl, hB, hh, hl, hm, hs, ht⟩
  · exact .inl ⟨rfl, List.eq_nil_of_length_eq_zero h0⟩
  · refine .inr ⟨g, cap, cs, rfl, hB, ⟨cs, hh, rfl, by omega, fun j hj => ?_, fun _ _ => rfl⟩, by omega, hm⟩
    have e1 := congrArg (fun l : List Value => l[j]?) ht
    simp only [Nat.mul_one, List.getElem?_take, hj, if_true, Array.getElem?_toList, List.getElem?_map] at e1
    rw [Nat.zero_add, e1]
    simp [List.getD_eq_getElem?_getD, hj]
end
end Go.Proofs.Ytinbeodihhjfmaa
