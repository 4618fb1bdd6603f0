
/-
  Lists whose elements are some cells each: as they are read, and as the call's own. Proofs about worlds alone: no function of the program here.
-/
import Derived.Test.YtpfeacdhplbblaaGreatBundleA
import Derived.Maps.AppendAt


namespace Go.Proofs.YtpfeacdhplbblaaGreat
open Go.RowKit
set_option linter.unusedVariables false
section
variable {α : Type}
def flat (enc : α → List Value) : List α → List Value
  | [] => []
  | x :: r => enc x ++ flat enc r
theorem flat_append (enc : α → List Value) (xs ys : List α) : flat enc (xs ++ ys) = flat enc xs ++ flat enc ys := by
  induction xs with
  | nil => rfl
  | cons x xs ih => simp only [List.cons_append, flat, ih, List.append_assoc]
theorem flat_one (enc : α → List Value) (x : α) : flat enc [x] = enc x := by simp [flat]
theorem flat_len {enc : α → List Value} {k : Nat} (hk : ∀ x, (enc x).length = k) (d : List α) : (flat enc d).length = d.length * k := by
  induction d with
  | nil => simp [flat]
  | cons x d ih => rw [flat, List.length_append, ih, hk, List.length_cons, Nat.add_mul]; omega
theorem flat_get {enc : α → List Value} {k : Nat} (hk : ∀ x, (enc x).length = k) : ∀ (d : List α) (j : Nat) (x : α), d[j]? = some x → ∀ i, i < k → (flat enc d)[j * k + i]? = (enc x)[i]?
  | [], j, x, h, i, hi => by simp at h
  | y :: d, 0, x, h, i, hi => by
    simp at h
    subst h
    rw [Nat.zero_mul, Nat.zero_add, flat, List.getElem?_append_left (by rw [hk]; exact hi)]
  | y :: d, j + 1, x, h, i, hi => by
    rw [flat, List.getElem?_append_right (by rw [hk, Nat.add_mul]; omega), hk, show (j + 1) * k + i - k = j * k + i by rw [Nat.add_mul]; omega]
    exact flat_get hk d j x (by simpa using h) i hi
def Hd (enc : α → List Value) (k : Nat) (W : World) (b off : Nat) (d : List α) : Prop :=
  ∀ j x, d[j]? = some x → ∀ i v, (enc x)[i]? = some v → W.cell? ⟨b, off + j * k + i, none⟩ = some v
def Lr (enc : α → List Value) (k : Nat) (W : World) (v : Value) (d : List α) : Prop :=
  ∃ A c, v = .slice A d.length c ∧ d.length ≤ c ∧ c ≤ maxLen ∧ (0 < d.length → ∃ b off, A = some ⟨b, off, none⟩ ∧ b < W.heap.size ∧ Hd enc k W b off d)
variable {enc : α → List Value} {k : Nat} {W W' : World} {v : Value} {d : List α}
theorem Lr.nil (enc : α → List Value) (k : Nat) (W : World) : Lr enc k W (.slice none 0 0) [] := ⟨none, 0, rfl, Nat.le_refl _, by simp [maxLen], fun h => absurd h (by simp)⟩
theorem Lr.step (h : Lr enc k W v d) (hb : Below W.heap.size W W') : Lr enc k W' v d := by
  obtain ⟨A, c, e, h1, h2, h3⟩ := h
  refine ⟨A, c, e, h1, h2, fun hn => ?_⟩
  obtain ⟨b, off, rfl, hlt, hc⟩ := h3 hn
  exact ⟨b, off, rfl, Nat.lt_of_lt_of_le hlt hb.size, fun j x hj i u hi => (hb.cell hlt).trans (hc j x hj i u hi)⟩
theorem Lr.at_ (h : Lr enc k W v d) {j : Nat} {x : α} (hj : d[j]? = some x) : ∃ b off c, v = .slice (some ⟨b, off, none⟩) d.length c ∧ b < W.heap.size ∧ ∀ i u, (enc x)[i]? = some u → W.cell? ⟨b, off + j * k + i, none⟩ = some u := by
  obtain ⟨A, c, e, h1, h2, h3⟩ := h
  have hn : 0 < d.length := by
    have := (List.getElem?_eq_some_iff.1 hj).1
    omega
  obtain ⟨b, off, rfl, hlt, hc⟩ := h3 hn
  exact ⟨b, off, c, e, hlt, hc j x hj⟩
theorem Lr.get {A : Option Addr} {n c : Nat} (h : Lr enc k W (.slice A n c) d) {j : Nat} {x : α} (hj : d[j]? = some x) : ∃ b off, A = some ⟨b, off, none⟩ ∧ b < W.heap.size ∧ ∀ i u, (enc x)[i]? = some u → W.cell? ⟨b, off + j * k + i, none⟩ = some u := by
  obtain ⟨b, off, c', e, hb, hc⟩ := h.at_ hj
  injection e with e1 e2 e3
  exact ⟨b, off, e1, hb, hc⟩
def Ow (T : TypeId) (enc : α → List Value) (k : Nat) (W : World) (B : Nat) (v : Value) (d : List α) : Prop := W.ownsRow B T k v d.length (flat enc d)
variable {T : TypeId} {B : Nat}
theorem Ow.nil (T : TypeId) (enc : α → List Value) (k : Nat) (W : World) (B : Nat) : Ow T enc k W B (.slice none 0 0) [] := World.ownsRow_nil W B T k
theorem Ow.lt (h : Ow T enc k W B v d) {g : Nat} (hg : v.ownBlock = some g) : B ≤ g ∧ g < W.heap.size := World.ownsRow.lt h g hg
theorem Ow.kept {row : Option Nat} (h : Ow T enc k W B v d) (hg : W.grownBy W' row) (hne : v.ownBlock = none ∨ v.ownBlock ≠ row) : Ow T enc k W' B v d := World.ownsRow.kept h hg hne
theorem Ow.step (h : Ow T enc k W B v d) (hb : Below W.heap.size W W') : Ow T enc k W' B v d := by
  obtain ⟨h1, h2⟩ := h
  refine ⟨h1, ?_⟩
  rcases h2 with h2 | ⟨g, cap, cur, e, hB, hh, r⟩
  · exact .inl h2
  · exact .inr ⟨g, cap, cur, e, hB, (hb.block g (Array.getElem?_eq_some_iff.1 hh).1).trans hh, r⟩
theorem Ow.mono {B' : Nat} (h : Ow T enc k W B v d) (hB : B' ≤ B) : Ow T enc k W B' v d := by
  obtain ⟨h1, h2⟩ := h
  refine ⟨h1, ?_⟩
  rcases h2 with h2 | ⟨g, cap, cur, e, hB2, r⟩
  · exact .inl h2
  · exact .inr ⟨g, cap, cur, e, by omega, r⟩
theorem Ow.form (h : Ow T enc k W B v d) : (v = .slice none 0 0 ∧ d = []) ∨ ∃ g cap cur, v = .slice (some ⟨g, 0, none⟩) d.length cap ∧ B ≤ g ∧ g < W.heap.size ∧ W.heap[g]? = some (.cells cur T (0, 0)) ∧ d.length ≤ cap ∧ cap ≤ maxLen ∧ cur.size = cap * k ∧ cur.toList.take (d.length * k) = flat enc d := by
  rcases h.2 with ⟨h1, h2⟩ | ⟨g, cap, cur, e, hB, hh, r⟩
  · exact .inl ⟨h1, List.length_eq_zero_iff.1 h2⟩
  · exact .inr ⟨g, cap, cur, e, hB, (Array.getElem?_eq_some_iff.1 hh).1, hh, r⟩
theorem Ow.rl (h : Ow T enc k W B v d) (hk : ∀ x, (enc x).length = k) : Lr enc k W v d := by
  have hl := h.1
  rcases h.form with ⟨rfl, rfl⟩ | ⟨g, cap, cur, rfl, hB, hlt, hh, h1, h2, h3, h4⟩
  · exact Lr.nil _ _ _
  · refine ⟨_, cap, rfl, h1, h2, fun hn => ⟨g, 0, rfl, hlt, fun j x hj i u hi => ?_⟩⟩
    have hjl := (List.getElem?_eq_some_iff.1 hj).1
    have hil : i < k := by have := (List.getElem?_eq_some_iff.1 hi).1; rwa [hk] at this
    have e := flat_get hk d j x hj i hil
    rw [hi, ← h4] at e
    have hm : (j + 1) * k ≤ d.length * k := Nat.mul_le_mul_right k hjl
    rw [Nat.add_mul] at hm
    rw [List.getElem?_take, if_pos (by omega), Array.getElem?_toList] at e
    rw [Nat.zero_add, cell_of_row W g (j * k + i) cur T (0, 0) hh]
    exact e
theorem Ow.frozen (h : Ow T enc k W B v d) {g n c : Nat} (e : v = .slice (some ⟨g, 0, none⟩) n c) (i : Nat) : W.frozen? ⟨g, i, none⟩ = false := by
  rcases h.form with ⟨rfl, _⟩ | ⟨g', cap, cur, rfl, hB, hlt, hh, r⟩
  · cases e
  · cases e
    exact frozen_of_row W g i cur T hh
theorem Ow.lit (hk : ∀ x, (enc x).length = k) (W : World) (T : TypeId) (d : List α) (cs : Array Value) (hc : cs.toList = flat enc d) (hB : B ≤ W.heap.size) (hm : d.length ≤ maxLen) : Ow T enc k (W.alloc (.cells cs T)) B (.slice (some ⟨W.heap.size, 0, none⟩) d.length d.length) d := by
  have hs : cs.size = d.length * k := by rw [← flat_len hk d, ← hc, Array.length_toList]
  have h := World.ownsRow_lit (base := B) (e := T) (size := k) W cs d.length hB hm hs
  unfold Ow
  rwa [hc] at h
end
end Go.Proofs.YtpfeacdhplbblaaGreat
