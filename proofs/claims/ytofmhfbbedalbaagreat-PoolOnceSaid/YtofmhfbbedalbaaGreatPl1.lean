
/-
 Pools as they lie in memory: cuts, lists of them, the pool's own block.
-/
import Derived.Test.YtofmhfbbedalbaaGreatPlm
import Derived.Test.YtofmhfbbedalbaaGreatBundleM


namespace Go.Proofs.YtofmhfbbedalbaaGreat
open Go.RowKit Go.Proofs.YtofmhfbbedalbaaGreat.Num
set_option linter.unusedVariables false
set_option linter.unusedSimpArgs false
set_option maxRecDepth 100000
structure Cx where
 k : Kx
 a : Int
instance : Inhabited Cx := ⟨⟨default, 0⟩⟩
def ec (x : Cx) : List Value := [.int .i64 x.k.s, sv x.k.v, .bool x.k.x.s, sv x.k.x.u, sv x.k.x.t, .int .i64 x.a]
theorem ec_len (x : Cx) : (ec x).length = 6 := rfl
theorem ec_one (x : Cx) : ∀ u ∈ ec x, u.oneCell' = true := by
 intro u hu
 simp [ec] at hu
 rcases hu with rfl | rfl | rfl | rfl | rfl | rfl <;> rfl
abbrev cx (x : Cx) : Value := .agg #[.int .i64 x.k.s, sv x.k.v, .bool x.k.x.s, sv x.k.x.u, sv x.k.x.t, .int .i64 x.a]
abbrev cbox (x : Cx) : Obj := .cells #[.int .i64 x.k.s, sv x.k.v, .bool x.k.x.s, sv x.k.x.u, sv x.k.x.t, .int .i64 x.a] 79
def Cq (W : World) (g : Nat) (x : Cx) : Prop := W.heap[g]? = some (cbox x)
theorem Cq.new (w : World) (x : Cx) : Cq (w.alloc (cbox x)) w.heap.size x := heap_alloc_new w _
theorem Cq.lt {W : World} {g : Nat} {x : Cx} (h : Cq W g x) : g < W.heap.size := by unfold Cq at h; exact (Array.getElem?_eq_some_iff.1 h).1
theorem Cq.step {W W' : World} {g : Nat} {x : Cx} (h : Cq W g x) (hb : Below W.heap.size W W') : Cq W' g x := (hb.block g h.lt).trans h
theorem Cq.all {W : World} {g : Nat} {x : Cx} (h : Cq W g x) : W.cell? ⟨g, 0, none⟩ = some (.int .i64 x.k.s) ∧ W.cell? ⟨g, 1, none⟩ = some (sv x.k.v) ∧ W.cell? ⟨g, 2, none⟩ = some (.bool x.k.x.s) ∧ W.cell? ⟨g, 3, none⟩ = some (sv x.k.x.u) ∧ W.cell? ⟨g, 4, none⟩ = some (sv x.k.x.t) ∧ W.cell? ⟨g, 5, none⟩ = some (.int .i64 x.a) :=
 ⟨cell_of_row W g 0 _ _ _ h, cell_of_row W g 1 _ _ _ h, cell_of_row W g 2 _ _ _ h, cell_of_row W g 3 _ _ _ h, cell_of_row W g 4 _ _ _ h, cell_of_row W g 5 _ _ _ h⟩
def cv (k : Kx) : Ct := (k.s, tms k.d, k.x.r)
def cvs (l : List Cx) : List Ct := l.map fun x => cv x.k
def Plq (W : World) (g : Nat) (p : Int) (v : Sl) : Prop := W.heap[g]? = some (.cells #[.int .i64 p, sv v] 77)
theorem Plq.lt {W : World} {g : Nat} {p : Int} {v : Sl} (h : Plq W g p v) : g < W.heap.size := by unfold Plq at h; exact (Array.getElem?_eq_some_iff.1 h).1
theorem Plq.step {W W' : World} {g : Nat} {p : Int} {v : Sl} (h : Plq W g p v) (hb : Below W.heap.size W W') : Plq W' g p v := (hb.block g h.lt).trans h
theorem Plq.c {W : World} {g : Nat} {p : Int} {v : Sl} (h : Plq W g p v) : W.cell? ⟨g, 1, none⟩ = some (sv v) := cell_of_row W g 1 _ _ _ h
theorem Plq.fz {W : World} {g : Nat} {p : Int} {v : Sl} (h : Plq W g p v) (j : Nat) : W.frozen? ⟨g, j, none⟩ = false := frozen_of_row W g j _ _ h
theorem Plq.put {W : World} {g : Nat} {p : Int} {v : Sl} (h : Plq W g p v) (u : Sl) : Plq (W.setCell ⟨g, 1, none⟩ (sv u)) g p u := heap_setCell_same W g 1 _ _ (sv u) h
def Plo (W : World) (B g : Nat) (p : Int) (v : Sl) (l : List Cx) (M : Nat) : Prop :=
 Plq W g p v ∧ B ≤ g ∧ Ow 79 ec 6 W B (sv v) l ∧ ∀ x ∈ l, Kg W B x.k M ∧ x.k.d.length ≤ 100
theorem Plo.step {W W' : World} {B g : Nat} {p : Int} {v : Sl} {l : List Cx} {M : Nat} (h : Plo W B g p v l M) (hb : Below W.heap.size W W') : Plo W' B g p v l M :=
 ⟨h.1.step hb, h.2.1, h.2.2.1.step hb, fun x hx => ⟨(h.2.2.2 x hx).1.step hb, (h.2.2.2 x hx).2⟩⟩
theorem Plo.rd {W : World} {B g : Nat} {p : Int} {v : Sl} {l : List Cx} {M : Nat} (h : Plo W B g p v l M) : Lr ec 6 W (sv v) l := h.2.2.1.rl ec_len
def Oth (W : World) (g : Nat) : Prop := ∃ cs T, W.heap[g]? = some (.cells cs T (0, 0)) ∧ T ≠ 109 ∧ T ≠ 59
theorem Oth.ot {W : World} {g : Nat} (h : Oth W g) : Ot W g := by
 obtain ⟨cs, T, h, h1, h2⟩ := h
 exact ⟨cs, _, _, h, h1⟩
theorem Oth.ne {W : World} {g B : Nat} {v : Value} {d : List Tx} (h : Oth W g) (ho : Ow 59 et 4 W B v d) : v.ownBlock ≠ some g := by
 obtain ⟨cs, T, h, h1, h2⟩ := h
 rcases ho.form with ⟨rfl, _⟩ | ⟨g', cap, cur, rfl, hB, hlt, hh, r⟩
 ·intro e
  cases e
 ·intro e
  have e : g' = g := by simpa [Value.ownBlock] using e
  subst e
  rw [h] at hh
  injection hh with hh
  injection hh with _ e2 _
  exact h2 e2
theorem Kg.grownO {W W' : World} {B L : Nat} {k : Kx} {row : Option Nat} (h : Kg W B k L) (hg : W.grownBy W' row) (hr : ∀ g, row = some g → Oth W g) : Kg W' B k L := by
 have hne : (sv k.v).ownBlock = none ∨ (sv k.v).ownBlock ≠ row := by
  cases row with
  | none => cases e : (sv k.v).ownBlock with
   | none => exact .inl rfl
   | some _ => exact .inr (by simp)
  | some g => exact .inr ((hr g rfl).ne h.1.1)
 exact ⟨⟨h.1.1.kept hg hne, fun x hx => (h.1.2 x hx).grownT hg (fun g e => (hr g e).ot)⟩, h.2.1.grownT hg (fun g e => (hr g e).ot), h.2.2⟩
theorem Plq.oth {W : World} {g : Nat} {p : Int} {v : Sl} (h : Plq W g p v) : Oth W g := ⟨_, _, h, by decide, by decide⟩
theorem ow_oth {W : World} {B : Nat} {v : Value} {l : List Cx} (h : Ow 79 ec 6 W B v l) : ∀ g, v.ownBlock = some g → Oth W g := by
 intro g hg
 rcases h.form with ⟨rfl, _⟩ | ⟨g', cap, cur, rfl, hB, hlt, hh, r⟩
 ·cases hg
 ·have e : g' = g := by simpa [Value.ownBlock] using hg
  subst e
  exact ⟨cur, _, hh, by decide, by decide⟩
theorem ow_plq {W : World} {B g : Nat} {p : Int} {u : Sl} {v : Value} {l : List Cx} (h : Ow 79 ec 6 W B v l) (hq : Plq W g p u) : v.ownBlock ≠ some g := by
 intro hg
 rcases h.form with ⟨rfl, _⟩ | ⟨g', cap, cur, rfl, hB, hlt, hh, r⟩
 ·cases hg
 ·have e : g' = g := by simpa [Value.ownBlock] using hg
  subst e
  unfold Plq at hq
  rw [hq] at hh
  injection hh with hh
  injection hh with _ e2 _
  exact absurd e2 (by decide)
theorem only_set1 (W : World) (g j : Nat) (a : Value) : W.grownBy (W.setCell ⟨g, j, none⟩ a) (some g) := only_set (only_refl W (some g)) rfl a
end Go.Proofs.YtofmhfbbedalbaaGreat
