/-
  fields.Lines.
-/
import Derived.Test.YtinbeodihhjfmaaFld3
namespace Go.Proofs.Ytinbeodihhjfmaa
open Go Go.RowKit Go.Shelf
set_option linter.unusedVariables false
set_option linter.unusedSimpArgs false
set_option maxRecDepth 100000

theorem trim_len (s p : Bs) : (Lib.trimSuffix s p).length ≤ s.length := by
  unfold Lib.trimSuffix
  split
  · rw [List.length_take]; exact Nat.min_le_right _ _
  · exact Nat.le_refl _
theorem strip_len (x : Bs) : (strip x).length ≤ x.length := Nat.le_trans (trim_len _ _) (trim_len _ _)
theorem trim_f (x p : Bs) (hx : x.length ≤ 65536) (w : World) : Calls Try.prog 10 #[.string (ba x), .string (ba p)] w fun e w' => e = .returned (.string (ba (Lib.trimSuffix x p))) ∧ w' = w :=
  (Try.strings_TrimSuffix (ba x) (ba p) w (by rw [ba_size]; omega)).mono fun e w' ⟨h1, h2⟩ => ⟨by rw [h1], h2⟩
theorem wds_nil {x : Bs} (h : strip x = []) : wds x = [] := by
  unfold wds
  rw [h]
  rfl
/-- What holds between two rounds. -/
def St (w : World) (B k : Nat) (v : Value) (d : List Lx) (ls : List Ln) (W : World) : Prop :=
  Boxed W w.heap.size 23 (.slice none 0 0) ∧ Boxed W (w.heap.size + 1) 24 (.int .i64 0) ∧ Boxed W (w.heap.size + 1 + 1) 3 (.int .i64 0) ∧
  Boxed W (w.heap.size + 1 + 1 + 1) 23 v ∧ Boxed W (w.heap.size + 1 + 1 + 1 + 1) 3 (.int .i64 (k : Int)) ∧ Lg W B v d ∧ d.map Lx.ln = ls ∧ Below w.heap.size w W
theorem bstep {B : Nat} {a b c : World} (h : Below B a b) (hB : B ≤ b.heap.size) (k : Below b.heap.size b c) : Below B a c := h.trans (k.mono hB)
theorem bxs {W W' : World} {b : Nat} {t : TypeId} {v : Value} (h : Boxed W b t v) (hb : Below W.heap.size W W') : Boxed W' b t v := (hb.block b h.lt).trans h
theorem St.step {w W W' : World} {B k : Nat} {v : Value} {d : List Lx} {ls : List Ln} (h : St w B k v d ls W) (hb : Below W.heap.size W W') : St w B k v d ls W' :=
  ⟨bxs h.1 hb, bxs h.2.1 hb, bxs h.2.2.1 hb, bxs h.2.2.2.1 hb, bxs h.2.2.2.2.1 hb, h.2.2.2.2.2.1.step hb, h.2.2.2.2.2.2.1, bstep h.2.2.2.2.2.2.2 h.2.2.2.2.2.2.2.size hb⟩
theorem Lg.kept {W W' : World} {B : Nat} {v : Value} {d : List Lx} {row : Option Nat} (h : Lg W B v d) (hg : W.grownBy W' row) (hr : ∀ r, row = some r → r < B ∨ ∃ o : Obj, W.heap[r]? = some o ∧ ∀ cs T fz, o = .cells cs T fz → T ≠ 31 ∧ T ≠ 9) : Lg W' B v d := by
  have off : ∀ {α : Type} {enc : α → List Value} {k : Nat} {T : TypeId} {u : Value} {f : List α}, (T = 31 ∨ T = 9) → Ow T enc k W B u f → Ow T enc k W' B u f := fun hT ho => ho.kept hg (by
    rcases ho.form with ⟨rfl, _⟩ | ⟨g, cap, cur, rfl, hB, hlt, hh, _⟩
    · exact .inl rfl
    · refine .inr (fun e => ?_)
      simp only [Value.ownBlock] at e
      rcases hr g e.symm with h1 | ⟨o, h1, h2⟩
      · omega
      · rw [hh] at h1
        injection h1 with h1
        have h3 := h2 _ _ _ h1.symm
        rcases hT with rfl | rfl
        · exact h3.1 rfl
        · exact h3.2 rfl)
  exact ⟨off (.inl rfl) h.1, fun x hx => off (.inr rfl) (h.2 x hx)⟩
/-- The line's number is one more. -/
theorem St.no {w W : World} {B k : Nat} {v : Value} {d : List Lx} {ls : List Ln} (h : St w B k v d ls W) (hB : w.heap.size + 5 ≤ B) : St w B (k + 1) v d ls (W.setCell ⟨w.heap.size + 1 + 1 + 1 + 1, 0, none⟩ (.int .i64 ((k : Int) + 1))) := by
  obtain ⟨b0, b1, b2, b3, b4, L, e, bl⟩ := h
  have hg : W.grownBy (W.setCell ⟨w.heap.size + 1 + 1 + 1 + 1, 0, none⟩ (.int .i64 ((k : Int) + 1))) (some (w.heap.size + 1 + 1 + 1 + 1)) := only_set (p := ⟨w.heap.size + 1 + 1 + 1 + 1, 0, none⟩) (only_refl W _) rfl _
  exact ⟨b0.other (by omega) _, b1.other (by omega) _, b2.other (by omega) _, b3.other (by omega) _, b4.set _, L.kept hg (fun r e => .inl (by injection e with e; omega)), e, bl.setCell (p := ⟨w.heap.size + 1 + 1 + 1 + 1, 0, none⟩) (by show w.heap.size ≤ w.heap.size + 1 + 1 + 1 + 1; omega) _⟩
/-- It abides a turn of what is no cells, from m on, and of a cell below B that is none of these. -/
theorem St.grown {w W W' : World} {B k : Nat} {v : Value} {d : List Lx} {ls : List Ln} {row : Option Nat} (h : St w B k v d ls W) (hg : W.grownBy W' row) (hr : ∀ r, row = some r → w.heap.size + 5 ≤ r ∧ (r < B ∨ ∃ o : Obj, W.heap[r]? = some o ∧ o.isCells = false)) : St w B k v d ls W' := by
  obtain ⟨b0, b1, b2, b3, b4, L, e, bl⟩ := h
  have hx : ∀ j, j ≤ 4 → some (w.heap.size + j) ≠ row := fun j hj e => by have := (hr _ e.symm).1; omega
  exact ⟨b0.kept hg (hx 0 (by omega)), b1.kept hg (hx 1 (by omega)), b2.kept hg (hx 2 (by omega)), b3.kept hg (hx 3 (by omega)), b4.kept hg (hx 4 (by omega)), L.kept hg (fun r e => by
    rcases (hr r e).2 with h1 | ⟨o, h1, h2⟩
    · exact .inl h1
    · exact .inr ⟨o, h1, fun cs T fz e => by subst e; cases h2⟩), e, bl.grown hg bl.size (fun r e => by have := (hr r e).1; omega)⟩
/-- What a round keeps for the law. -/
def Kt (B b : Nat) (W W' : World) : Prop := KeepsFrom B W W' ∧ W'.heap[b]? = W.heap[b]?
theorem Kt.refl (B b : Nat) (W : World) : Kt B b W W := ⟨KeepsFrom.refl _ _, rfl⟩
theorem Kt.step {B b : Nat} {W W' W'' : World} (h : Kt B b W W') (hb : b < W.heap.size) (k : Below W'.heap.size W' W'') : Kt B b W W'' :=
  ⟨⟨Nat.le_trans h.1.size k.size, fun j o hj h0 ho => (k.block j (Array.getElem?_eq_some_iff.1 (h.1.same j o hj h0 ho)).1).trans (h.1.same j o hj h0 ho)⟩, (k.block b (Nat.lt_of_lt_of_le hb h.1.size)).trans h.2⟩
theorem Kt.grown {B b : Nat} {W W' W'' : World} {row : Option Nat} (h : Kt B b W W') (hb : b < W.heap.size) (hg : W'.grownBy W'' row) (hr : ∀ r, row = some r → r ≠ b ∧ (r < B ∨ ∀ o, W'.heap[r]? = some o → o.isCells = true)) : Kt B b W W'' := by
  refine ⟨⟨Nat.le_trans h.1.size hg.size, fun j o hj h0 ho => ?_⟩, (hg.block b (Nat.lt_of_lt_of_le hb h.1.size) (fun e => (hr b e.symm).1 rfl)).trans h.2⟩
  have h1 := h.1.same j o hj h0 ho
  refine (hg.block j (Array.getElem?_eq_some_iff.1 h1).1 (fun e => ?_)).trans h1
  rcases (hr j e.symm).2 with h2 | h2
  · omega
  · rw [h2 o h1] at ho
    cases ho

theorem Kt.drew {B b : Nat} {W W' : World} (h : Kt B b W W') : Kt B b W W'.drew := ⟨⟨h.1.size, h.1.same⟩, h.2⟩
theorem Kt.set {w W W' : World} {B b j : Nat} (h : Kt B b W W') (hb : b < W.heap.size) (h5 : w.heap.size + 5 ≤ b) (hB : b < B) (hj : j < w.heap.size + 5) (u : Value) : Kt B b W (W'.setCell ⟨j, 0, none⟩ u) :=
  h.grown hb (only_set (p := ⟨j, 0, none⟩) (only_refl W' _) rfl _) (fun r e => by
    have e : some j = some r := e
    injection e with e
    exact ⟨by omega, .inl (by omega)⟩)
/-- What it answers. -/
def FlOut (w : World) (s : Bs) (e : Ending) (w' : World) : Prop := Below w.heap.size w w' ∧
  ((65536 < s.length ∧ e = .returned (.tuple #[.slice none 0 0, .int .i64 1, .int .i64 0])) ∨
   (s.length ≤ 65536 ∧ ((∃ k, badAt 0 (lnsOf s) = some k ∧ e = .returned (.tuple #[.slice none 0 0, .int .i64 80, .int .i64 (k : Int)])) ∨
    (badAt 0 (lnsOf s) = none ∧ ∃ v d, e = .returned (.tuple #[v, .int .i64 0, .int .i64 ((lnsOf s).length : Int)]) ∧ Lg w' w.heap.size v d ∧ d.map Lx.ln = good 0 (lnsOf s)))))
end Go.Proofs.Ytinbeodihhjfmaa
