
/-
 Nodes that wait: their order, heaps of them.
-/
import Derived.Test.YtepaamclfdadnaaTv

namespace Go.Proofs.Ytepaamclfdadnaa
open Go.RowKit Go.Proofs.Ytepaamclfdadnaa.Num
set_option linter.unusedVariables false
set_option linter.unusedSimpArgs false
set_option maxRecDepth 100000
structure Nx where
 id : Int
 dp : Int
 x : Rx
instance : Inhabited Nx := ⟨⟨0, 0, default⟩⟩
def en (n : Nx) : List Value := [.int .i64 n.id, .int .i64 n.dp, .bool n.x.s, sv n.x.u, sv n.x.t]
theorem en_len (n : Nx) : (en n).length = 5 := rfl
theorem en_one (n : Nx) : ∀ u ∈ en n, u.oneCell' = true := by
 intro u hu
 simp [en] at hu
 rcases hu with rfl | rfl | rfl | rfl | rfl <;> rfl
abbrev Ky := Int × Int × Rat
def ky (n : Nx) : Ky := (n.id, n.dp, n.x.r)
def ak (o : Int) (p q : Ky) : Prop :=
 (o = 1 ∧ (q.2.1 < p.2.1 ∨ (p.2.1 = q.2.1 ∧ (p.2.2 < q.2.2 ∨ (p.2.2 = q.2.2 ∧ p.1 < q.1))))) ∨
 (o ≠ 1 ∧ (p.2.2 < q.2.2 ∨ (p.2.2 = q.2.2 ∧ (q.2.1 < p.2.1 ∨ (p.2.1 = q.2.1 ∧ p.1 < q.1)))))
theorem ak_irrefl (o : Int) (p : Ky) : ¬ ak o p p := by unfold ak; grind
theorem ak_trans {o : Int} {p q r : Ky} (h1 : ak o p q) (h2 : ak o q r) : ak o p r := by unfold ak at *; grind
theorem ak_asymm {o : Int} {p q : Ky} (h : ak o p q) : ¬ ak o q p := fun h2 => ak_irrefl o p (ak_trans h h2)
theorem ak_neg {o : Int} {p q r : Ky} (h1 : ¬ ak o p q) (h2 : ¬ ak o q r) : ¬ ak o p r := by unfold ak at *; grind
abbrev ah (o : Int) (m n : Nx) : Prop := ak o (ky m) (ky n)
def Hn (o : Int) (l : List Nx) (n : Nat) : Prop := ∀ i x y, 0 < i → i < n → l[i]? = some x → l[(i - 1) / 2]? = some y → ¬ ah o x y
def Hu (o : Int) (l : List Nx) (k n : Nat) : Prop :=
 (∀ i x y, 0 < i → i < n → i ≠ k → l[i]? = some x → l[(i - 1) / 2]? = some y → ¬ ah o x y) ∧
 (0 < k → ∀ i x z, 0 < i → i < n → (i - 1) / 2 = k → l[i]? = some x → l[(k - 1) / 2]? = some z → ¬ ah o x z)
def Hdn (o : Int) (l : List Nx) (k n : Nat) : Prop :=
 (∀ i x y, 0 < i → i < n → (i - 1) / 2 ≠ k → l[i]? = some x → l[(i - 1) / 2]? = some y → ¬ ah o x y) ∧
 (0 < k → ∀ i x z, 0 < i → i < n → (i - 1) / 2 = k → l[i]? = some x → l[(k - 1) / 2]? = some z → ¬ ah o x z)
theorem set_permN : ∀ (l : List Nx) (i : Nat) (b : Nx), i < l.length → (l.set i b).Perm (b :: l.eraseIdx i)
 | [], i, b, h => by simp at h
 | a :: r, 0, b, h => by simp
 | a :: r, i + 1, b, h => by
  rw [List.set_cons_succ, List.eraseIdx_cons_succ]
  exact ((set_permN r i b (by simpa using h)).cons a).trans (List.Perm.swap b a _)
theorem get_permN {l : List Nx} {i : Nat} (h : i < l.length) : (l[i] :: l.eraseIdx i).Perm l := by
 have := set_permN l i l[i] h
 rw [List.set_getElem_self] at this
 exact this.symm
def swp (l : List Nx) (i j : Nat) (a b : Nx) : List Nx := (l.set i b).set j a
theorem swp_perm {l : List Nx} {i j : Nat} {a b : Nx} (hi : l[i]? = some a) (hj : l[j]? = some b) (hne : i ≠ j) : (swp l i j a b).Perm l := by
 obtain ⟨h1, e1⟩ := List.getElem?_eq_some_iff.1 hi
 obtain ⟨h2, e2⟩ := List.getElem?_eq_some_iff.1 hj
 have hj' : j < (l.set i b).length := by simpa using h2
 have p1 : (swp l i j a b).Perm (a :: (l.set i b).eraseIdx j) := set_permN _ _ a hj'
 have p2 : ((l.set i b)[j] :: (l.set i b).eraseIdx j).Perm (l.set i b) := get_permN hj'
 have e3 : (l.set i b)[j] = b := by rw [List.getElem_set_ne hne]; exact e2
 rw [e3] at p2
 have p3 : (l.set i b).Perm (b :: l.eraseIdx i) := set_permN _ _ b h1
 have p4 : ((l.set i b).eraseIdx j).Perm (l.eraseIdx i) := (p2.trans p3).cons_inv
 have p5 : (l[i] :: l.eraseIdx i).Perm l := get_permN h1
 rw [e1] at p5
 exact p1.trans ((p4.cons a).trans p5)
theorem swp_get {l : List Nx} {i j k : Nat} {a b : Nx} (hi : i < l.length) (hj : j < l.length) (hne : i ≠ j) : (swp l i j a b)[k]? = if k = j then some a else if k = i then some b else l[k]? := by
 unfold swp
 by_cases e1 : k = j
 ·subst e1
  rw [if_pos rfl, List.getElem?_set_self (by simpa using hj)]
 ·rw [if_neg e1, List.getElem?_set_ne (Ne.symm e1)]
  by_cases e2 : k = i
  ·subst e2
   rw [if_pos rfl, List.getElem?_set_self hi]
  ·rw [if_neg e2, List.getElem?_set_ne (Ne.symm e2)]
theorem Hu.done {o : Int} {l : List Nx} {k n : Nat} (h : Hu o l k n) (hk : k = 0 ∨ ∃ x y, l[k]? = some x ∧ l[(k - 1) / 2]? = some y ∧ ¬ ah o x y) : Hn o l n := by
 intro i x y h0 hi hx hy
 by_cases e : i = k
 ·subst e
  rcases hk with hk | ⟨x', y', h1, h2, h3⟩
  ·omega
  ·rw [hx] at h1; rw [hy] at h2
   cases h1; cases h2
   exact h3
 ·exact h.1 i x y h0 hi e hx hy
theorem Hu.swap {o : Int} {l : List Nx} {k n : Nat} {a b : Nx} (h : Hu o l k n) (hk0 : 0 < k) (hkn : k < n) (hn : n ≤ l.length) (ha : l[k]? = some a) (hb : l[(k - 1) / 2]? = some b) (hab : ah o a b) : Hu o (swp l k ((k - 1) / 2) a b) ((k - 1) / 2) n := by
 have hpk : (k - 1) / 2 < k := by omega
 have g := fun (m : Nat) => swp_get (l := l) (i := k) (j := (k - 1) / 2) (k := m) (a := a) (b := b) (by omega) (by omega) (by omega)
 refine ⟨fun i x y h0 hi hne hx hy => ?_, fun hp i x z h0 hi he hx hz => ?_⟩
 ·rw [g] at hx hy
  rw [if_neg hne] at hx
  by_cases e1 : i = k
  ·subst e1
   rw [if_pos rfl] at hx hy
   cases hx; cases hy
   exact ak_asymm hab
  ·rw [if_neg e1] at hx
   by_cases e2 : (i - 1) / 2 = (k - 1) / 2
   ·rw [if_pos e2] at hy
    cases hy
    intro h9
    exact h.1 i x b h0 hi e1 hx (by rw [e2]; exact hb) (ak_trans h9 hab)
   ·rw [if_neg e2] at hy
    by_cases e3 : (i - 1) / 2 = k
    ·rw [if_pos e3] at hy
     cases hy
     exact h.2 hk0 i x b h0 hi e3 hx hb
    ·rw [if_neg e3] at hy
     exact h.1 i x y h0 hi e1 hx hy
 ·rw [g] at hx hz
  rw [if_neg (by omega), if_neg (by omega)] at hz
  rw [if_neg (by omega)] at hx
  have hbz : ¬ ah o b z := h.1 _ b z hp (by omega) (by omega) hb hz
  by_cases e1 : i = k
  ·rw [if_pos e1] at hx
   cases hx
   exact hbz
  ·rw [if_neg e1] at hx
   exact ak_neg (h.1 i x b h0 hi e1 hx (by rw [he]; exact hb)) hbz
theorem Hdn.swap {o : Int} {l : List Nx} {k c n : Nat} {a b : Nx} (h : Hdn o l k n) (hc0 : 0 < c) (hcn : c < n) (hn : n ≤ l.length) (hck : (c - 1) / 2 = k) (ha : l[k]? = some a) (hb : l[c]? = some b) (hab : ah o b a)
  (hm : ∀ i x, 0 < i → i < n → (i - 1) / 2 = k → l[i]? = some x → ¬ ah o x b) : Hdn o (swp l k c a b) c n := by
 have hkc : k < c := by omega
 have g := fun (m : Nat) => swp_get (l := l) (i := k) (j := c) (k := m) (a := a) (b := b) (by omega) (by omega) (by omega)
 refine ⟨fun i x y h0 hi hne hx hy => ?_, fun hp i x z h0 hi he hx hz => ?_⟩
 ·rw [g] at hx hy
  rw [if_neg hne] at hy
  by_cases e1 : i = c
  ·subst e1
   rw [if_pos rfl] at hx
   rw [if_pos hck] at hy
   cases hx; cases hy
   exact ak_asymm hab
  ·rw [if_neg e1] at hx
   by_cases e2 : i = k
   ·subst e2
    rw [if_pos rfl] at hx
    rw [if_neg (by omega)] at hy
    cases hx
    exact h.2 h0 c b y hc0 hcn hck hb hy
   ·rw [if_neg e2] at hx
    by_cases e3 : (i - 1) / 2 = k
    ·rw [if_pos e3] at hy
     cases hy
     exact hm i x h0 hi e3 hx
    ·rw [if_neg e3] at hy
     exact h.1 i x y h0 hi e3 hx hy
 ·rw [g] at hx hz
  rw [hck, if_neg (by omega), if_pos rfl] at hz
  rw [if_neg (by omega), if_neg (by omega)] at hx
  cases hz
  exact h.1 i x b h0 hi (by omega) hx (by rw [he]; exact hb)
theorem Hn.first {o : Int} {l : List Nx} {n : Nat} {y : Nx} (h : Hn o l n) (hn : n ≤ l.length) (hy : l[0]? = some y) : ∀ i x, i < n → l[i]? = some x → ¬ ah o x y := by
 intro i
 induction i using Nat.strongRecOn with
 | _ i ih =>
  intro x hi hx
  by_cases h0 : i = 0
  ·subst h0
   rw [hx] at hy
   cases hy
   exact ak_irrefl _ _
  ·have hp : (i - 1) / 2 < l.length := by omega
   have hz : l[(i - 1) / 2]? = some l[(i - 1) / 2] := List.getElem?_eq_getElem hp
   exact ak_neg (h i x _ (by omega) hi hx hz) (ih _ (by omega) _ (by omega) hz)
theorem Hn.firstM {o : Int} {l : List Nx} {y : Nx} (h : Hn o l l.length) (hy : l[0]? = some y) : ∀ x ∈ l, ¬ ah o x y := by
 intro x hx
 obtain ⟨i, hi⟩ := List.mem_iff_getElem?.1 hx
 exact h.first (Nat.le_refl _) hy i x (List.getElem?_eq_some_iff.1 hi).1 hi
theorem Hn.push {o : Int} {l : List Nx} (h : Hn o l l.length) (x : Nx) : Hu o (l ++ [x]) l.length (l.length + 1) := by
 refine ⟨fun i a b h0 hi hne ha hb => ?_, fun hp i a z h0 hi he => by omega⟩
 rw [List.getElem?_append_left (by omega)] at ha hb
 exact h i a b h0 (by omega) ha hb
theorem Hn.zero (o : Int) (l : List Nx) : Hn o l 0 := fun i x y h0 hi => by omega
theorem Hn.pop {o : Int} {l : List Nx} {y : Nx} (h : Hn o l l.length) : Hdn o ((l.set 0 y).take (l.length - 1)) 0 (l.length - 1) := by
 refine ⟨fun i a b h0 hi hne ha hb => ?_, fun hp => by omega⟩
 rw [List.getElem?_take, if_pos (by omega), List.getElem?_set_ne (by omega)] at ha
 rw [List.getElem?_take, if_pos (by omega), List.getElem?_set_ne (by omega)] at hb
 exact h i a b h0 (by omega) ha hb
theorem pop_perm {l : List Nx} {a y : Nx} (ha : l[0]? = some a) (hy : l[l.length - 1]? = some y) : (a :: (l.set 0 y).take (l.length - 1)).Perm l := by
 cases l with
 | nil => cases ha
 | cons b r =>
  simp at ha
  subst ha
  rcases List.eq_nil_or_concat r with rfl | ⟨r', z, er⟩
  ·simp
  ·rw [List.concat_eq_append] at er
   subst er
   have e1 : (b :: (r' ++ [z])).length - 1 = r'.length + 1 := by simp
   rw [e1] at hy ⊢
   have hz : y = z := by
    rw [List.getElem?_cons_succ, List.getElem?_append_right (by omega)] at hy
    simpa using hy.symm
   subst hz
   rw [List.set_cons_zero, List.take_succ_cons, List.take_left' rfl]
   exact (List.perm_append_comm (l₁ := [y]) (l₂ := r')).cons b
end Go.Proofs.Ytepaamclfdadnaa
