
/-
 Queues: Prune, walked.
-/
import Derived.Test.YtepaamclfdadnaaGreatQu9

namespace Go.Proofs.YtepaamclfdadnaaGreat
open Go.RowKit Go.Proofs.YtepaamclfdadnaaGreat.Num
set_option linter.unusedVariables false
set_option linter.unusedSimpArgs false
set_option maxRecDepth 100000
def PrRet (w : World) (B g : Nat) (o : Int) (v : Sl) (l : List Nx) (M : Nat) (q : Rat) (e : Ending) (w' : World) : Prop :=
 ∃ (out : Value) (v' : Sl) (l' : List Nx), e = .returned out ∧ Ow 3 eiq 1 w' w.heap.size out (srt (gone q l)) ∧ Qo w' B g o v' l' M ∧ l'.Perm (keep q l) ∧ Hn o l' l'.length ∧ Efq w w' B g v v'
def Pr (w : World) (B g a n c : Nat) (o : Int) (l : List Nx) (M : Nat) (q : Rat) (k m : Nat) (out : Value) (W : World) : Prop :=
 Qo W B g o (some ⟨a, 0, none⟩, n, c) (keep q (l.take k) ++ l.drop m) M ∧ m = (keep q (l.take k)).length ∧ Ow 3 eiq 1 W w.heap.size out (gone q (l.take k)) ∧ Efq w W B g (some ⟨a, 0, none⟩, n, c) (some ⟨a, 0, none⟩, n, c)
theorem Pr.step {w W W' : World} {B g a n c : Nat} {o : Int} {l : List Nx} {M : Nat} {q : Rat} {k m : Nat} {out : Value} (h : Pr w B g a n c o l M q k m out W) (hb : Below W.heap.size W W') : Pr w B g a n c o l M q k m out W' :=
 ⟨h.1.step hb, h.2.1, h.2.2.1.step hb, h.2.2.2.step hb (Nat.le_trans h.1.2.1 (Nat.le_of_lt h.1.1.lt))⟩
theorem Pr.start {w W : World} {B g a n c : Nat} {o : Int} {l : List Nx} {M : Nat} {q : Rat} (h : Qo W B g o (some ⟨a, 0, none⟩, n, c) l M) (he : Efq w W B g (some ⟨a, 0, none⟩, n, c) (some ⟨a, 0, none⟩, n, c)) : Pr w B g a n c o l M q 0 0 (.slice none 0 0) W :=
 ⟨by simpa [keep] using h, rfl, by simp [gone]; exact Ow.nil _ _ _ _ _, he⟩
theorem Pr.le {w W : World} {B g a n c : Nat} {o : Int} {l : List Nx} {M : Nat} {q : Rat} {k m : Nat} {out : Value} (h : Pr w B g a n c o l M q k m out W) : m ≤ k := by
 have h2 := h.2.1
 have h3 := keep_len q (l.take k)
 simp at h3
 omega
theorem Pr.at_ {w W : World} {B g a n c : Nat} {o : Int} {l : List Nx} {M : Nat} {q : Rat} {k m : Nat} {out : Value} {x : Nx} (h : Pr w B g a n c o l M q k m out W) (hx : l[k]? = some x) : (keep q (l.take k) ++ l.drop m)[k]? = some x := by
 have h1 := h.le
 rw [List.getElem?_append_right (by rw [← h.2.1]; exact h1), ← h.2.1, List.getElem?_drop, show m + (k - m) = k by omega]
 exact hx
theorem Pr.at9 {w W : World} {B g a n c : Nat} {o : Int} {l : List Nx} {M : Nat} {q : Rat} {k m : Nat} {out : Value} {x : Nx} (h : Pr w B g a n c o l M q k m out W) (hx : l[k]? = some x) : ∃ y, (keep q (l.take k) ++ l.drop m)[m]? = some y := by
 have h1 := h.le
 have h2 := (List.getElem?_eq_some_iff.1 hx).1
 exact len_of (by simp [← h.2.1]; omega)
theorem Pr.stay {w W : World} {B g a n c : Nat} {o : Int} {l : List Nx} {M : Nat} {q : Rat} {k m : Nat} {out : Value} {x : Nx} (h : Pr w B g a n c o l M q k m out W) (hx : l[k]? = some x) (hq : x.x.r < q) (ha : ∀ b, out.ownBlock = some b → b ≠ a) : Pr w B g a n c o l M q (k + 1) (m + 1) out (put5n W a (m * 5) x) := by
 obtain ⟨y, hy⟩ := h.at9 hx
 obtain ⟨e1, e2⟩ := keep_next hx hq
 have hk := (List.getElem?_eq_some_iff.1 hx).1
 have h1 := h.le
 have p := h.1.put (x := x) hy (h.1.2.2.2 x (List.mem_of_getElem? (h.at_ hx)))
 have hs : (keep q (l.take k) ++ l.drop m).set m x = keep q (l.take (k + 1)) ++ l.drop (m + 1) := by
  rw [e1, List.set_append_right _ _ (by rw [← h.2.1]; exact Nat.le_refl _), ← h.2.1, Nat.sub_self, List.append_assoc]
  congr 1
  rw [List.drop_eq_getElem_cons (by omega)]
  rfl
 rw [hs] at p
 have hBa : B ≤ a := (h.1.2.2.1.lt (show (Value.slice (some ⟨a, 0, none⟩) n c).ownBlock = some a from rfl)).1
 refine ⟨p, by rw [e1, List.length_append, ← h.2.1]; rfl, ?_, h.2.2.2.trans ⟨below_put5n (Below.refl _ _) hBa _ x, fun b hb h3 h4 => (only_put5n W a (m * 5) x).block b hb (fun e => h4 (by rw [Option.some.inj e]; rfl)), .inl rfl⟩⟩
 rw [e2]
 exact h.2.2.1.same (fun b hb => (only_put5n W a (m * 5) x).block b (h.2.2.1.lt hb).2 (fun e => ha b hb (Option.some.inj e)))
theorem Pr.go {w W W' : World} {B g a n c : Nat} {o : Int} {l : List Nx} {M : Nat} {q : Rat} {k m : Nat} {out out' : Value} {x : Nx} (h : Pr w B g a n c o l M q k m out W) (hx : l[k]? = some x) (hq : ¬ x.x.r < q) (hB : B ≤ w.heap.size) (ha : a < w.heap.size) (hg0 : g < w.heap.size)
  (ho : Ow 3 eiq 1 W' w.heap.size out' (gone q (l.take k) ++ [x.id])) (hg : W.grownBy W' out.ownBlock) : Pr w B g a n c o l M q (k + 1) m out' W' := by
 obtain ⟨e1, e2⟩ := gone_next hx hq
 have hlt : ∀ b, out.ownBlock = some b → w.heap.size ≤ b ∧ b < W.heap.size := fun b hb => h.2.2.1.lt hb
 have hgo : ∀ b, b < W.heap.size → b < w.heap.size → W'.heap[b]? = W.heap[b]? := fun b h1 h2 => hg.block b h1 (fun e => by have := (hlt b e.symm).1; omega)
 have hot : ∀ g', out.ownBlock = some g' → Ot W g' := by
  intro g' e
  rcases h.2.2.1.form with ⟨rfl, _⟩ | ⟨g2, cap, cur, rfl, hB, hlt, hh, r⟩
  ·cases e
  ·have e : g2 = g' := by simpa [Value.ownBlock] using e
   subst e
   exact ⟨cur, _, _, hh, by decide⟩
 refine ⟨⟨(hgo g h.1.1.lt hg0).trans h.1.1, h.1.2.1, ?_, fun z hz => ?_⟩, by rw [e1]; exact h.2.1, by rw [e2]; exact ho, ?_⟩
 ·rw [e1]
  exact h.1.2.2.1.kept hg (.inr (fun e => by have := (hlt a (by rw [← e]; rfl)).1; omega))
 ·rw [e1] at hz
  exact (h.1.2.2.2 z hz).grownT hg hot
 ·exact ⟨h.2.2.2.1.grown hg (Nat.le_trans h.1.2.1 (Nat.le_of_lt h.1.1.lt)) (fun b hb => Nat.le_trans hB (hlt b hb).1), fun b hb h3 h4 => (hgo b (Nat.lt_of_lt_of_le hb h.2.2.2.1.size) hb).trans (h.2.2.2.2.1 b hb h3 h4), .inl rfl⟩
theorem Pr.end_ {w W : World} {B g a n c : Nat} {o : Int} {l : List Nx} {M : Nat} {q : Rat} {m : Nat} {out : Value} (h : Pr w B g a n c o l M q n m out W) (hn : l.length = n) : m ≤ n ∧ m = (keep q l).length ∧ Qo W B g o (some ⟨a, 0, none⟩, n, c) (keep q l ++ l.drop m) M ∧ (keep q l ++ l.drop m).take m = keep q l ∧ Ow 3 eiq 1 W w.heap.size out (gone q l) := by
 have e : l.take n = l := List.take_of_length_le (by omega)
 have h0 := h.le
 have h2 := h.2.1
 have h1 := h.1
 have h3 := h.2.2.1
 rw [e] at h1 h2 h3
 exact ⟨h0, h2, h1, by rw [List.take_left' h2.symm], h3⟩
theorem Qo.offO {W W' : World} {B g : Nat} {row : Option Nat} {o : Int} {v : Sl} {l : List Nx} {M : Nat} (hq : Qo W B g o v l M) (hg : W.grownBy W' row) (ho : ∀ h, row = some h → Ot W h) (h1 : row ≠ some g) (h2 : ∀ b, row = some b → (sv v).ownBlock ≠ some b) : Qo W' B g o v l M :=
 ⟨(hg.block g hq.1.lt (fun e => h1 e.symm)).trans hq.1, hq.2.1, by
  rcases row with _ | b
  ·rcases hv : (sv v).ownBlock with _ | c
   ·exact hq.2.2.1.kept hg (.inl hv)
   ·exact hq.2.2.1.kept hg (.inr (by rw [hv]; simp))
  ·exact hq.2.2.1.kept hg (.inr (h2 b rfl)), fun x hx => (hq.2.2.2 x hx).grownT hg ho⟩
theorem Efq.offO {w W W' : World} {B g : Nat} {row : Option Nat} {v v' : Sl} (he : Efq w W B g v v') (hg : W.grownBy W' row) (hB : B ≤ W.heap.size) (hh : ∀ b, row = some b → w.heap.size ≤ b ∧ B ≤ b) : Efq w W' B g v v' :=
 ⟨he.1.grown hg hB (fun b e => (hh b e).2), fun b a c d => (hg.block b (Nat.lt_of_lt_of_le a he.1.size) (fun e => by have := (hh b e.symm).1; omega)).trans (he.2.1 b a c d), he.2.2⟩
theorem Ow.efq {α : Type} {enc : α → List Value} {k : Nat} {T : TypeId} {W W' : World} {B g : Nat} {v v' : Sl} {out : Value} {d : List α} {C : Nat} (h : Ow T enc k W C out d) (he : Efq W W' B g v v') (hg : g < C) (hv : ∀ b, (sv v).ownBlock = some b → b < C) : Ow T enc k W' C out d :=
 h.same (fun b hb => he.2.1 b (h.lt hb).2 (fun e => by have := (h.lt hb).1; omega) (fun e => by have := (h.lt hb).1; have := hv b e; omega))
end Go.Proofs.YtepaamclfdadnaaGreat
