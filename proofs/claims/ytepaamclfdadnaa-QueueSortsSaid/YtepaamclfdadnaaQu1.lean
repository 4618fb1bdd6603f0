
/-
 Queues as they lie in memory.
-/
import Derived.Test.YtepaamclfdadnaaQm
import Derived.Test.YtepaamclfdadnaaBundleO


namespace Go.Proofs.Ytepaamclfdadnaa
open Go.RowKit Go.Proofs.Ytepaamclfdadnaa.Num
set_option linter.unusedVariables false
set_option linter.unusedSimpArgs false
set_option maxRecDepth 100000
abbrev nx (n : Nx) : Value := .agg #[.int .i64 n.id, .int .i64 n.dp, .bool n.x.s, sv n.x.u, sv n.x.t]
abbrev nbox (n : Nx) : Obj := .cells #[.int .i64 n.id, .int .i64 n.dp, .bool n.x.s, sv n.x.u, sv n.x.t] 35
def Nq (W : World) (g : Nat) (n : Nx) : Prop := W.heap[g]? = some (nbox n)
theorem Nq.new (w : World) (n : Nx) : Nq (w.alloc (nbox n)) w.heap.size n := heap_alloc_new w _
theorem Nq.lt {W : World} {g : Nat} {n : Nx} (h : Nq W g n) : g < W.heap.size := by unfold Nq at h; exact (Array.getElem?_eq_some_iff.1 h).1
theorem Nq.step {W W' : World} {g : Nat} {n : Nx} (h : Nq W g n) (hb : Below W.heap.size W W') : Nq W' g n := (hb.block g h.lt).trans h
theorem Nq.all {W : World} {g : Nat} {n : Nx} (h : Nq W g n) : W.cell? ⟨g, 0, none⟩ = some (.int .i64 n.id) ∧ W.cell? ⟨g, 1, none⟩ = some (.int .i64 n.dp) ∧ W.cell? ⟨g, 2, none⟩ = some (.bool n.x.s) ∧ W.cell? ⟨g, 3, none⟩ = some (sv n.x.u) ∧ W.cell? ⟨g, 4, none⟩ = some (sv n.x.t) :=
 ⟨cell_of_row W g 0 _ _ _ h, cell_of_row W g 1 _ _ _ h, cell_of_row W g 2 _ _ _ h, cell_of_row W g 3 _ _ _ h, cell_of_row W g 4 _ _ _ h⟩
theorem Nq.fz {W : World} {g : Nat} {n : Nx} (h : Nq W g n) (j : Nat) : W.frozen? ⟨g, j, none⟩ = false := frozen_of_row W g j _ _ h
def Quq (W : World) (g : Nat) (o : Int) (v : Sl) : Prop := W.heap[g]? = some (.cells #[.int .i64 o, sv v] 45 (0, 0))
theorem Quq.lt {W : World} {g : Nat} {o : Int} {v : Sl} (h : Quq W g o v) : g < W.heap.size := by unfold Quq at h; exact (Array.getElem?_eq_some_iff.1 h).1
theorem Quq.step {W W' : World} {g : Nat} {o : Int} {v : Sl} (h : Quq W g o v) (hb : Below W.heap.size W W') : Quq W' g o v := (hb.block g h.lt).trans h
theorem Quq.c0 {W : World} {g : Nat} {o : Int} {v : Sl} (h : Quq W g o v) : W.cell? ⟨g, 0, none⟩ = some (.int .i64 o) := cell_of_row W g 0 _ _ _ h
theorem Quq.c {W : World} {g : Nat} {o : Int} {v : Sl} (h : Quq W g o v) : W.cell? ⟨g, 1, none⟩ = some (sv v) := cell_of_row W g 1 _ _ _ h
theorem Quq.fz {W : World} {g : Nat} {o : Int} {v : Sl} (h : Quq W g o v) (j : Nat) : W.frozen? ⟨g, j, none⟩ = false := frozen_of_row W g j _ _ h
theorem Quq.put {W : World} {g : Nat} {o : Int} {v : Sl} (h : Quq W g o v) (u : Sl) : Quq (W.setCell ⟨g, 1, none⟩ (sv u)) g o u := heap_setCell_same W g 1 _ _ (sv u) h
def Qo (W : World) (B g : Nat) (o : Int) (v : Sl) (l : List Nx) (M : Nat) : Prop :=
 Quq W g o v ∧ B ≤ g ∧ Ow 35 en 5 W B (sv v) l ∧ ∀ x ∈ l, Rg W B x.x M
theorem Qo.step {W W' : World} {B g : Nat} {o : Int} {v : Sl} {l : List Nx} {M : Nat} (h : Qo W B g o v l M) (hb : Below W.heap.size W W') : Qo W' B g o v l M :=
 ⟨h.1.step hb, h.2.1, h.2.2.1.step hb, fun x hx => (h.2.2.2 x hx).step hb⟩
theorem Qo.rd {W : World} {B g : Nat} {o : Int} {v : Sl} {l : List Nx} {M : Nat} (h : Qo W B g o v l M) : Lr en 5 W (sv v) l := h.2.2.1.rl en_len
theorem lr_nQ {α : Type} {enc : α → List Value} {k : Nat} {W : World} {A : Option Addr} {n c : Nat} {d : List α} (h : Lr enc k W (.slice A n c) d) : n = d.length ∧ c ≤ maxLen ∧ n ≤ c := by
 obtain ⟨A', c', e, h1, h2, h3⟩ := h
 injection e with e1 e2 e3
 exact ⟨e2, by rw [e3]; exact h2, by rw [e2, e3]; exact h1⟩
theorem ow_quq {W : World} {B g : Nat} {o : Int} {u : Sl} {v : Value} {l : List Nx} (h : Ow 35 en 5 W B v l) (hq : Quq W g o u) : v.ownBlock ≠ some g := by
 intro hg
 rcases h.form with ⟨rfl, _⟩ | ⟨g', cap, cur, rfl, hB, hlt, hh, r⟩
 ·cases hg
 ·have e : g' = g := by simpa [Value.ownBlock] using hg
  subst e
  unfold Quq at hq
  rw [hq] at hh
  injection hh with hh
  injection hh with _ e2 _
  exact absurd e2 (by decide)
theorem Ow.otN {W : World} {B : Nat} {v : Value} {d : List Nx} (h : Ow 35 en 5 W B v d) : ∀ g, v.ownBlock = some g → Ot W g := by
 intro g hg
 rcases h.form with ⟨rfl, _⟩ | ⟨g', cap, cur, rfl, hB, hlt, hh, r⟩
 ·cases hg
 ·have e : g' = g := by simpa [Value.ownBlock] using hg
  subst e
  exact ⟨cur, _, _, hh, by decide⟩
theorem Quq.ot {W : World} {g : Nat} {o : Int} {v : Sl} (h : Quq W g o v) : Ot W g := ⟨_, _, _, h, by decide⟩
theorem only_set1 (W : World) (g j : Nat) (u : Value) : W.grownBy (W.setCell ⟨g, j, none⟩ u) (some g) := only_set (only_refl W (some g)) rfl u
def Efq (w w' : World) (B g : Nat) (v v' : Sl) : Prop :=
 Below B w w' ∧ (∀ b, b < w.heap.size → b ≠ g → (sv v).ownBlock ≠ some b → w'.heap[b]? = w.heap[b]?) ∧ ((sv v').ownBlock = (sv v).ownBlock ∨ ∀ b, (sv v').ownBlock = some b → w.heap.size ≤ b)
theorem Efq.refl (w : World) (B g : Nat) (v : Sl) : Efq w w B g v v := ⟨Below.refl _ _, fun _ _ _ _ => rfl, .inl rfl⟩
theorem Efq.of {w w' : World} {B g : Nat} {v : Sl} (h : Below w.heap.size w w') (hB : B ≤ w.heap.size) : Efq w w' B g v v := ⟨h.mono hB, fun b hb _ _ => h.block b hb, .inl rfl⟩
theorem Efq.trans {w w' w2 : World} {B g : Nat} {v v' v2 : Sl} (h : Efq w w' B g v v') (k : Efq w' w2 B g v' v2) : Efq w w2 B g v v2 := by
 have hs := h.1.size
 refine ⟨h.1.trans k.1, fun b hb hg hv => ?_, ?_⟩
 ·refine (k.2.1 b (Nat.lt_of_lt_of_le hb hs) hg (fun e => ?_)).trans (h.2.1 b hb hg hv)
  rcases h.2.2 with h3 | h3
  ·exact hv (h3 ▸ e)
  ·have := h3 b e
   omega
 ·rcases k.2.2 with k3 | k3
  ·rcases h.2.2 with h3 | h3
   ·exact .inl (k3.trans h3)
   ·exact .inr (fun b e => h3 b (k3 ▸ e))
  ·exact .inr (fun b e => Nat.le_trans hs (k3 b e))
theorem Efq.step {w w' w2 : World} {B g : Nat} {v v' : Sl} (h : Efq w w' B g v v') (hb : Below w'.heap.size w' w2) (hB : B ≤ w'.heap.size) : Efq w w2 B g v v' := h.trans (Efq.of hb hB)
theorem flat_set5 : ∀ (d : List Nx) (i : Nat) (x : Nx), i < d.length → (((((flat en d).set (i * 5) (.int .i64 x.id)).set (i * 5 + 1) (.int .i64 x.dp)).set (i * 5 + 2) (.bool x.x.s)).set (i * 5 + 3) (sv x.x.u)).set (i * 5 + 4) (sv x.x.t) = flat en (d.set i x)
 | [], i, x, h => by simp at h
 | y :: d, 0, x, _ => by simp [flat, en]
 | y :: d, i + 1, x, h => by
  have ih := flat_set5 d i x (by simpa using h)
  rw [List.set_cons_succ, flat, flat, ← ih]
  simp only [en, List.cons_append, List.nil_append, show (i + 1) * 5 + 1 = i * 5 + 1 + 1 + 1 + 1 + 1 + 1 by omega, show (i + 1) * 5 + 2 = i * 5 + 2 + 1 + 1 + 1 + 1 + 1 by omega, show (i + 1) * 5 + 3 = i * 5 + 3 + 1 + 1 + 1 + 1 + 1 by omega, show (i + 1) * 5 + 4 = i * 5 + 4 + 1 + 1 + 1 + 1 + 1 by omega, show (i + 1) * 5 = i * 5 + 1 + 1 + 1 + 1 + 1 by omega, List.set_cons_succ]
abbrev put5n (W : World) (g a : Nat) (x : Nx) : World := ((((W.setCell ⟨g, a, none⟩ (.int .i64 x.id)).setCell ⟨g, a + 1, none⟩ (.int .i64 x.dp)).setCell ⟨g, a + 2, none⟩ (.bool x.x.s)).setCell ⟨g, a + 3, none⟩ (sv x.x.u)).setCell ⟨g, a + 4, none⟩ (sv x.x.t)
theorem only_put5n (W : World) (g a : Nat) (x : Nx) : W.grownBy (put5n W g a x) (some g) :=
 only_set (p := ⟨g, a + 4, none⟩) (only_set (p := ⟨g, a + 3, none⟩) (only_set (p := ⟨g, a + 2, none⟩) (only_set (p := ⟨g, a + 1, none⟩) (only_set (p := ⟨g, a, none⟩) (only_refl W (some g)) rfl _) rfl _) rfl _) rfl _) rfl _
theorem below_put5n {B : Nat} {w W : World} {g : Nat} (h : Below B w W) (hg : B ≤ g) (a : Nat) (x : Nx) : Below B w (put5n W g a x) :=
 ((((h.setCell (p := ⟨g, a, none⟩) hg _).setCell (p := ⟨g, a + 1, none⟩) hg _).setCell (p := ⟨g, a + 2, none⟩) hg _).setCell (p := ⟨g, a + 3, none⟩) hg _).setCell (p := ⟨g, a + 4, none⟩) hg _
theorem own_lenN {W : World} {B g n c : Nat} {d : List Nx} (h : Ow 35 en 5 W B (.slice (some ⟨g, 0, none⟩) n c) d) : n = d.length := by
 rcases h.form with ⟨e, _⟩ | ⟨g', cap, cur, e, _⟩
 ·cases e
 ·injection e
theorem Ow.putN {W : World} {B g n c i : Nat} {d : List Nx} (h : Ow 35 en 5 W B (.slice (some ⟨g, 0, none⟩) n c) d) (hi : i < d.length) (x : Nx) :
  Ow 35 en 5 (put5n W g (i * 5) x) B (.slice (some ⟨g, 0, none⟩) n c) (d.set i x) := by
 have hn := own_lenN h
 subst hn
 have h1 := World.ownsRow.stored (World.ownsRow.stored (World.ownsRow.stored (World.ownsRow.stored (World.ownsRow.stored (show W.ownsRow B _ 5 _ d.length _ from h) (i * 5) (.int .i64 x.id)).1 (i * 5 + 1) (.int .i64 x.dp)).1 (i * 5 + 2) (.bool x.x.s)).1 (i * 5 + 3) (sv x.x.u)).1 (i * 5 + 4) (sv x.x.t)
 have h2 := h1.1
 rw [flat_set5 d i x hi] at h2
 unfold Ow
 rw [List.length_set]
 exact h2
theorem Ow.cellsN {W : World} {B g n c i : Nat} {d : List Nx} {x : Nx} (h : Ow 35 en 5 W B (.slice (some ⟨g, 0, none⟩) n c) d) (hi : d[i]? = some x) :
  W.cell? ⟨g, i * 5, none⟩ = some (.int .i64 x.id) ∧ W.cell? ⟨g, i * 5 + 1, none⟩ = some (.int .i64 x.dp) ∧ W.cell? ⟨g, i * 5 + 2, none⟩ = some (.bool x.x.s) ∧ W.cell? ⟨g, i * 5 + 3, none⟩ = some (sv x.x.u) ∧ W.cell? ⟨g, i * 5 + 4, none⟩ = some (sv x.x.t) := by
 obtain ⟨b, off, e, hb, hc⟩ := (h.rl en_len).get hi
 injection e with e
 injection e with e1 e2
 subst e1 e2
 have c0 := hc 0 _ rfl
 have c1 := hc 1 _ rfl
 have c2 := hc 2 _ rfl
 have c3 := hc 3 _ rfl
 have c4 := hc 4 _ rfl
 rw [Nat.zero_add] at c0 c1 c2 c3 c4
 exact ⟨c0, c1, c2, c3, c4⟩
theorem Qo.put {W : World} {B g a n c i : Nat} {o : Int} {l : List Nx} {x y : Nx} {M : Nat} (h : Qo W B g o (some ⟨a, 0, none⟩, n, c) l M) (hi : l[i]? = some y) (hx : Rg W B x.x M) :
  Qo (put5n W a (i * 5) x) B g o (some ⟨a, 0, none⟩, n, c) (l.set i x) M := by
 have hoth : ∀ g', some a = some g' → Ot W g' := fun g' e => h.2.2.1.otN g' (by rw [← e]; rfl)
 have hne : a ≠ g := fun e => ow_quq h.2.2.1 h.1 (by rw [← e]; rfl)
 have hq : Quq (put5n W a (i * 5) x) g o (some ⟨a, 0, none⟩, n, c) := ((only_put5n W a (i * 5) x).block g h.1.lt (fun e => hne (Option.some.inj e).symm)).trans h.1
 refine ⟨hq, h.2.1, Ow.putN h.2.2.1 (List.getElem?_eq_some_iff.1 hi).1 x, fun z hz => ?_⟩
 have key : Rg W B z.x M := by
  rcases List.mem_or_eq_of_mem_set hz with hz | rfl
  ·exact h.2.2.2 z hz
  ·exact hx
 exact key.grownT (only_put5n W a (i * 5) x) hoth
theorem Qo.form {W : World} {B g : Nat} {o : Int} {v : Sl} {l : List Nx} {M : Nat} (h : Qo W B g o v l M) {i : Nat} {x : Nx} (hx : l[i]? = some x) : ∃ a c, v = (some ⟨a, 0, none⟩, l.length, c) ∧ B ≤ a ∧ a < W.heap.size ∧ l.length ≤ c ∧ c ≤ maxLen ∧ a ≠ g := by
 obtain ⟨VA, vn, vc⟩ := v
 rcases h.2.2.1.form with ⟨_, e⟩ | ⟨a, cap, cur, e, hB, hlt, hh, h1, h2, r⟩
 ·subst e
  cases hx
 ·injection e with e1 e2 e3
  subst e1 e2 e3
  exact ⟨a, _, rfl, hB, hlt, h1, h2, fun e => ow_quq h.2.2.1 h.1 (by rw [← e]; rfl)⟩
theorem Qo.swap {W : World} {B g a n c i j : Nat} {o : Int} {l : List Nx} {x y : Nx} {M : Nat} (h : Qo W B g o (some ⟨a, 0, none⟩, n, c) l M) (hi : l[i]? = some x) (hj : l[j]? = some y) (hne : i ≠ j) :
  Qo (put5n (put5n W a (i * 5) y) a (j * 5) x) B g o (some ⟨a, 0, none⟩, n, c) (swp l i j x y) M ∧ Efq W (put5n (put5n W a (i * 5) y) a (j * 5) x) B g (some ⟨a, 0, none⟩, n, c) (some ⟨a, 0, none⟩, n, c) := by
 have h1 := h.put (x := y) hi (h.2.2.2 y (List.mem_of_getElem? hj))
 have h2 := h1.put (i := j) (x := x) (y := y) (by rw [List.getElem?_set_ne hne]; exact hj) ((h.2.2.2 x (List.mem_of_getElem? hi)).grownT (only_put5n W a (i * 5) y) (fun g' e => h.2.2.1.otN g' (by rw [← e]; rfl)))
 have hBa : B ≤ a := (h.2.2.1.lt (show (Value.slice (some ⟨a, 0, none⟩) n c).ownBlock = some a from rfl)).1
 refine ⟨h2, below_put5n (below_put5n (Below.refl _ _) hBa _ _) hBa _ _, fun b hb hg hv => ?_, .inl rfl⟩
 have hba : some b ≠ some a := fun e => hv (by rw [e]; rfl)
 exact ((only_put5n (put5n W a (i * 5) y) a (j * 5) x).block b (Nat.lt_of_lt_of_le hb (only_put5n W a (i * 5) y).size) hba).trans ((only_put5n W a (i * 5) y).block b hb hba)
end Go.Proofs.Ytepaamclfdadnaa
