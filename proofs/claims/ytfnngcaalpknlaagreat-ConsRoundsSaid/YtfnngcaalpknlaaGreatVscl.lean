/-
  vec.Scatter.
-/
import Derived.Test.YtfnngcaalpknlaaGreatVecLinW

namespace Go.Proofs.YtfnngcaalpknlaaGreat
open Go.RowKit Go.Proofs.YtfnngcaalpknlaaGreat.Num
set_option linter.unusedVariables false
set_option linter.unusedSimpArgs false
set_option maxRecDepth 100000

def zrx : Rx := ⟨false, (none, 0, 0), (none, 0, 0), 0⟩
theorem made3 (w : World) (B n : Nat) (hB : B ≤ w.heap.size) (hn : n ≤ 100000000) :
    Ow 42 er 3 (w.alloc (.cells (madeCells #[.bool false, .slice none 0 0, .slice none 0 0] (n * 3)) 42)) B (.slice (some ⟨w.heap.size, 0, none⟩) n n) (List.replicate n zrx) := by
  have h := Ow.lit (B := B) er_len w 42 (List.replicate n zrx) (madeCells #[.bool false, .slice none 0 0, .slice none 0 0] (n * 3)) (made_flat (enc := er) er_len (by omega) zrx n) hB (by simp [maxLen]; omega)
  simpa using h
theorem make_rt (n : Nat) (hn : n ≤ 100000000) (W : World) : (Instr.makeSlice 23 (.int .i64 (n : Int)) (.int .i64 (n : Int))).run Tryz.prog W = .ok (.slice (some ⟨W.heap.size, 0, none⟩) n n) (W.alloc (.cells (madeCells #[.bool false, .slice none 0 0, .slice none 0 0] (n * 3)) 42)) := by
  obtain ⟨i, hi, hz0, hz1, hz2⟩ := info_parts info_rt
  have h := run_make (P := Tryz.prog) W 23 42 i _ Tryz.underlying23 hi hz0 .i64 .i64 (n : Int) (n : Int) (by omega) (Int.le_refl _) (by rw [hz2]; omega) (by omega)
  rw [hz1, Int.toNat_natCast] at h
  exact h
theorem flat_setR : ∀ (d : List Rx) (i : Nat) (x : Rx), i < d.length → (((flat er d).set (i * 3) (.bool x.s)).set (i * 3 + 1) (sv x.u)).set (i * 3 + 2) (sv x.t) = flat er (d.set i x)
  | [], i, x, h => by simp at h
  | y :: d, 0, x, _ => by simp [flat, er]
  | y :: d, i + 1, x, h => by
    have ih := flat_setR d i x (by simpa using h)
    rw [List.set_cons_succ, flat, flat, ← ih]
    simp only [er, List.cons_append, List.nil_append, show (i + 1) * 3 = i * 3 + 1 + 1 + 1 by omega, List.set_cons_succ, show i * 3 + 1 + 1 + 1 + 1 = i * 3 + 1 + 1 + 1 + 1 from rfl, show i * 3 + 1 + 1 + 1 + 2 = i * 3 + 2 + 1 + 1 + 1 by omega]
theorem own_lenR {W : World} {B g n c : Nat} {d : List Rx} (h : Ow 42 er 3 W B (.slice (some ⟨g, 0, none⟩) n c) d) : n = d.length := by
  rcases h.form with ⟨e, _⟩ | ⟨g', cap, cur, e, _⟩
  · cases e
  · injection e
theorem Ow.putR {W : World} {B g n c i : Nat} {d : List Rx} (h : Ow 42 er 3 W B (.slice (some ⟨g, 0, none⟩) n c) d) (hi : i < d.length) (x : Rx) :
    Ow 42 er 3 (((W.setCell ⟨g, i * 3, none⟩ (.bool x.s)).setCell ⟨g, i * 3 + 1, none⟩ (sv x.u)).setCell ⟨g, i * 3 + 2, none⟩ (sv x.t)) B (.slice (some ⟨g, 0, none⟩) n c) (d.set i x) := by
  have hn := own_lenR h
  subst hn
  have h1 := World.ownsRow.stored (World.ownsRow.stored (World.ownsRow.stored (show W.ownsRow B _ 3 _ d.length _ from h) (i * 3) (.bool x.s)).1 (i * 3 + 1) (sv x.u)).1 (i * 3 + 2) (sv x.t)
  have h2 := h1.1
  rw [flat_setR d i x hi] at h2
  unfold Ow
  rw [List.length_set]
  exact h2
theorem Ow.cellsR {W : World} {B g n c i : Nat} {d : List Rx} {x : Rx} (h : Ow 42 er 3 W B (.slice (some ⟨g, 0, none⟩) n c) d) (hi : d[i]? = some x) :
    (W.cell? ⟨g, i * 3, none⟩ = some (.bool x.s) ∧ W.cell? ⟨g, i * 3 + 1, none⟩ = some (sv x.u) ∧ W.cell? ⟨g, i * 3 + 2, none⟩ = some (sv x.t)) ∧ W.frozen? ⟨g, i * 3, none⟩ = false ∧ W.frozen? ⟨g, i * 3 + 1, none⟩ = false ∧ W.frozen? ⟨g, i * 3 + 2, none⟩ = false := by
  obtain ⟨b, off, e, hb, hc⟩ := (h.rl er_len).get hi
  injection e with e
  injection e with e1 e2
  subst e1 e2
  have c0 := hc 0 _ rfl
  have c1 := hc 1 _ rfl
  have c2 := hc 2 _ rfl
  rw [Nat.zero_add] at c0 c1 c2
  exact ⟨⟨c0, c1, c2⟩, h.frozen rfl _, h.frozen rfl _, h.frozen rfl _⟩
theorem only_putR (W : World) (g i j k : Nat) (a b c : Value) : W.grownBy (((W.setCell ⟨g, i, none⟩ a).setCell ⟨g, j, none⟩ b).setCell ⟨g, k, none⟩ c) (some g) :=
  only_set (p := ⟨g, k, none⟩) (only_set (p := ⟨g, j, none⟩) (only_set (p := ⟨g, i, none⟩) (only_refl W (some g)) rfl a) rfl b) rfl c
theorem ow_ow_ne {α β : Type} {enc : α → List Value} {enc' : β → List Value} {k k' : Nat} {T T' : TypeId} {W : World} {B B' : Nat} {v v' : Value} {d : List α} {d' : List β} (h1 : Ow T enc k W B v d) (h2 : Ow T' enc' k' W B' v' d') (hne : T ≠ T') : v.ownBlock = none ∨ v.ownBlock ≠ v'.ownBlock := by
  rcases h1.form with ⟨rfl, _⟩ | ⟨g, cap, cur, rfl, _, _, hh, _⟩
  · exact .inl rfl
  · refine .inr (fun hq => ?_)
    rcases h2.form with ⟨rfl, _⟩ | ⟨g', cap', cur', rfl, _, _, hh', _⟩
    · cases hq
    · have e : g = g' := by simpa [Value.ownBlock] using hq
      subst e
      rw [hh] at hh'
      injection hh' with hh'
      injection hh' with _ ht
      exact hne ht
theorem Tg.kept {W W' : World} {B L : Nat} {v u : Value} {d : List Tx} {B' : Nat} {f : List Rx} (h : Tg W B v d L) (ho : Ow 42 er 3 W B' u f) (hg : W.grownBy W' u.ownBlock) : Tg W' B v d L :=
  ⟨h.1.kept hg (ow_ow_ne h.1 ho (by decide)), fun x hx => (h.2 x hx).grownT hg (fun g e => ho.ot3 g e)⟩
/-- The list's fractions below lim are told by val. -/
def Sc (W : World) (B : Nat) (val : Nat → Rat) (lim n M : Nat) (cur : List Rx) : Prop := cur.length = n ∧ ∀ (j : Nat) x, j < lim → cur[j]? = some x → x.r = val j ∧ Rg W B x M
theorem Sc.step {W W' : World} {B lim n M : Nat} {val : Nat → Rat} {cur : List Rx} (h : Sc W B val lim n M cur) (hb : Below W.heap.size W W') : Sc W' B val lim n M cur := ⟨h.1, fun j x hj hx => ⟨(h.2 j x hj hx).1, (h.2 j x hj hx).2.step hb⟩⟩
theorem Sc.put {W W' : World} {B lim lim' n M c : Nat} {val val' : Nat → Rat} {cur : List Rx} {z : Rx} {row : Option Nat} (h : Sc W B val lim n M cur) (hc : c < n) (hz : z.r = val' c) (rz : Rg W B z M) (hv : ∀ j, j < lim' → j ≠ c → j < lim ∧ val' j = val j) (hg : W.grownBy W' row) (hn : ∀ g, row = some g → Ot W g) : Sc W' B val' lim' n M (cur.set c z) := by
  refine ⟨by rw [List.length_set]; exact h.1, fun j x hj hx => ?_⟩
  by_cases e : j = c
  · subst e
    rw [List.getElem?_set_self (by rw [h.1]; exact hc)] at hx
    injection hx with hx
    subst hx
    exact ⟨hz, rz.grownT hg hn⟩
  · rw [List.getElem?_set_ne (fun h => e h.symm)] at hx
    obtain ⟨h1, h2⟩ := hv j hj e
    exact ⟨(h.2 j x h1 hx).1.trans h2.symm, (h.2 j x h1 hx).2.grownT hg hn⟩
/-- What is refused. -/
def ScBad (ts : List Tm) (n : Int) : Prop := n < 0 ∨ 65536 < n ∨ ∃ c : Int, n ≤ c ∧ 0 ≤ c ∧ gsum ts c ≠ 0
theorem fm_last {xs : List Tm} {l : Tm} (h : Fm (xs ++ [l])) : gsum (xs ++ [l]) l.1 = l.2 ∧ ∀ t ∈ xs ++ [l], t.1 ≤ l.1 := by
  have hp := List.pairwise_append.1 h.1
  have hx : ∀ t ∈ xs, t.1 < l.1 := fun t ht => hp.2.2 t ht l (by simp)
  refine ⟨?_, fun t ht => ?_⟩
  · rw [gsum_append, gsum_none (fun t ht => by have := hx t ht; omega), Rat.zero_add]
    simp [gsum, Rat.add_zero]
  · rcases List.mem_append.1 ht with ht | ht
    · have := hx t ht; omega
    · simp at ht; subst ht; exact Int.le_refl _
/-- Behind the first k, of a list in its one form, the next one's place has nothing. -/
theorem fm_take {ts : List Tm} {k : Nat} {t : Tm} (h : Fm ts) (ht : ts[k]? = some t) : gsum (ts.take k) t.1 = 0 := by
  refine gsum_none (fun x hx => ?_)
  obtain ⟨i, hi, rfl⟩ := List.mem_iff_getElem.1 hx
  have hik : i < k := by simp at hi; omega
  have hil : i < ts.length := by simp at hi; omega
  have hkl := (List.getElem?_eq_some_iff.1 ht).1
  have e : ts[k] = t := (List.getElem?_eq_some_iff.1 ht).2
  have := (List.pairwise_iff_getElem.1 h.1) i k hil hkl hik
  rw [List.getElem_take]
  rw [e] at this
  omega
end Go.Proofs.YtfnngcaalpknlaaGreat
