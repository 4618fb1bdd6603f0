/-
  What fields.Lines answers, in one form; lines counted on; lines behind others.
-/
import Derived.Test.YtinbeodihhjfmaaFld7
namespace Go.Proofs.Ytinbeodihhjfmaa
open Go Go.RowKit Go.Shelf
set_option linter.unusedVariables false
set_option linter.unusedSimpArgs false
set_option maxRecDepth 100000

/-- append of a list, perhaps nil, to one of the call's own, also where a guard lets it. -/
theorem wpList_joinG {α : Type} {enc : α → List Value} {k : Nat} {P : Program} {ops : Array Oper} {rest : List Oper} {o : Oper} {a : Act} {Q : Exit → Act → World → Prop} (hw : Region.wanted o (yielded ops a.tmps) = true) (s y : Operand) (t : TypeId)
    (ho : o.op = .call { callee := .builtin .append, args := #[s, y], argTypes := #[t, t] })
    {e : TypeId} {i : TypeInfo} {z : Value} {by_ : Nat} (ht : P.underlying t = some (.slice e)) (hi : P.info? e = some i) (hz : i.zero = some z)
    (hsize : i.size = k) (hby : i.bytes = by_) (hzs : z.cells.size = k) (h0 : 0 < k) (hk : ∀ x, (enc x).length = k) (h1 : ∀ x, ∀ u ∈ enc x, u.oneCell' = true) (wr : World) (B : Nat) (v u : Value) (d d2 : List α)
    (hx : Lr enc k wr u d2) (hown : Ow e enc k wr B v d) (hs : a.eval s = v) (hy : a.eval y = u)
    (hlen : d.length + d2.length ≤ 1000000000000) (hb8 : by_ ≤ 128) (hB : B ≤ wr.heap.size)
    (h : ∀ v' w', Ow e enc k w' B v' (d ++ d2) → wr.grownBy w' v.ownBlock → wpList P ops Q rest (a.put o.dst v') w') :
    wpList P ops Q (o :: rest) a wr :=
  wpList_step fun K hK => by
    rw [if_pos hw]
    have hr : ∃ v' w', (Builtin.append_ #[t, t] o.type #[v, u]).run P wr = .ok v' w' ∧ Ow e enc k w' B v' (d ++ d2) ∧ wr.grownBy w' v.ownBlock := by
      obtain ⟨A, c, rfl, hc1, hc2, hc3⟩ := id hx
      cases A with
      | none =>
        have h0 : d2 = [] := by
          rcases Nat.eq_zero_or_pos d2.length with h | h
          · exact List.length_eq_zero_iff.1 h
          · obtain ⟨b, off, e, _⟩ := hc3 h
            cases e
        subst h0
        have hv : ∃ A n c, v = .slice A n c ∧ n ≤ c := by
          rcases hown.form with ⟨rfl, _⟩ | ⟨g, cap, cur, rfl, _, _, _, h, _⟩
          · exact ⟨none, 0, 0, rfl, Nat.le_refl _⟩
          · exact ⟨_, _, _, rfl, h⟩
        obtain ⟨A, n, c0, rfl, hnc⟩ := hv
        exact ⟨_, _, run_join0 (P := P) (ty := o.type) ht hi wr A n c0 c hnc, by rw [List.append_nil]; exact hown, only_refl _ _⟩
      | some ad =>
        obtain ⟨v', w', hr, h2, h3⟩ := run_joinE (P := P) ht hi hz hsize hby hzs h0 hk h1 o.type wr B v d ad c d2 hx hown hlen hb8 hB
        exact ⟨v', w', hr, h2, h3.1⟩
    obtain ⟨v', w', hr, h2, h3⟩ := hr
    unfold Oper.wp execOp
    simp only [ho, resolve, invoke, builtin, Sem.run_bind, Sem.run_pure, Result.andThen_ok, List.map_toArray, List.map_cons, List.map_nil, hs, hy, hr]
    exact hK _ _ (h v' w' h2 h3)
theorem badAt_le : ∀ (k : Nat) (a : List Bs) (n : Nat), badAt k a = some n → n ≤ k + a.length
  | k, [], n, h => by cases h
  | k, x :: a, n, h => by
    simp only [badAt] at h
    split at h
    · injection h with h
      rw [List.length_cons]
      omega
    · have := badAt_le (k + 1) a n h
      rw [List.length_cons]
      omega
theorem good_no : ∀ (k : Nat) (a : List Bs), ∀ l ∈ good k a, l.no ≤ k + a.length
  | k, [], l, h => by simp [good] at h
  | k, x :: a, l, h => by
    simp only [good, List.mem_append] at h
    rcases h with h | h
    · unfold one at h
      split at h
      · simp at h
        subst h
        rw [List.length_cons]
        show k + 1 ≤ _
        omega
      · simp at h
    · have := good_no (k + 1) a l h
      rw [List.length_cons]
      omega
/-- What it answers, as a list, an error's number and a number of lines. -/
def FlT (W : World) (B : Nat) (s : Bs) (v : Value) (c k : Int) (d : List Lx) : Prop :=
  (65536 < s.length ∧ c = 1 ∧ k = 0 ∧ v = .slice none 0 0 ∧ d = []) ∨ (s.length ≤ 65536 ∧ ((∃ j : Nat, badAt 0 (lnsOf s) = some j ∧ c = 80 ∧ k = (j : Int) ∧ v = .slice none 0 0 ∧ d = []) ∨
    (badAt 0 (lnsOf s) = none ∧ c = 0 ∧ k = ((lnsOf s).length : Int) ∧ Lg W B v d ∧ d.map Lx.ln = good 0 (lnsOf s))))
theorem fl_form {w w' : World} {s : Bs} {e : Ending} (h : FlOut w s e w') : ∃ A n cap c k d, e = .returned (.tuple #[.slice A n cap, .int .i64 c, .int .i64 k]) ∧ FlT w' w.heap.size s (.slice A n cap) c k d ∧ Lg w' w.heap.size (.slice A n cap) d ∧ Below w.heap.size w w' := by
  obtain ⟨hb, (⟨h1, rfl⟩ | ⟨h1, (⟨j, h2, rfl⟩ | ⟨h2, v, d, rfl, h3, h4⟩)⟩)⟩ := h
  · exact ⟨none, 0, 0, 1, 0, [], rfl, .inl ⟨h1, rfl, rfl, rfl, rfl⟩, ⟨Ow.nil _ _ _ _ _, fun x hx => by cases hx⟩, hb⟩
  · exact ⟨none, 0, 0, 80, j, [], rfl, .inr ⟨h1, .inl ⟨j, h2, rfl, rfl, rfl, rfl⟩⟩, ⟨Ow.nil _ _ _ _ _, fun x hx => by cases hx⟩, hb⟩
  · have hv : ∃ A n c, v = .slice A n c := by
      rcases h3.1.form with ⟨rfl, _⟩ | ⟨g, cap, cur, rfl, _⟩
      · exact ⟨_, _, _, rfl⟩
      · exact ⟨_, _, _, rfl⟩
    obtain ⟨A, n, c, rfl⟩ := hv
    exact ⟨A, n, c, 0, _, d, rfl, .inr ⟨h1, .inr ⟨h2, rfl, rfl, h3, h4⟩⟩, h3, hb⟩
theorem own_len8 {W : World} {B n c : Nat} {A : Option Addr} {d : List Lx} (h : Ow 31 el 3 W B (.slice A n c) d) : n = d.length := by
  rcases h.form with ⟨e, h2⟩ | ⟨g', cap, cur, e, _⟩
  · injection e with e1 e2 e3
    rw [h2, e2]
    rfl
  · injection e
theorem flat_set8 : ∀ (d : List Lx) (i : Nat) (y : Lx) (k : Nat), d[i]? = some y → (flat el d).set (i * 3) (.int .i64 (k : Int)) = flat el (d.set i ⟨k, y.hd, y.wv, y.ws⟩)
  | [], i, y, k, h => by simp at h
  | z :: d, 0, y, k, h => by
    simp at h
    subst h
    simp [flat, el]
  | z :: d, i + 1, y, k, h => by
    have ih := flat_set8 d i y k (by simpa using h)
    rw [List.set_cons_succ, flat, flat, ← ih, Nat.add_mul, show i * 3 + 1 * 3 = (i * 3) + 1 + 1 + 1 by omega]
    simp only [el, List.cons_append, List.nil_append, List.set_cons_succ]
/-- A line's number is written over. -/
theorem Lg.put {W : World} {B g n c i : Nat} {d : List Lx} {y : Lx} (h : Lg W B (.slice (some ⟨g, 0, none⟩) n c) d) (hi : d[i]? = some y) (k : Nat) :
    Lg (W.setCell ⟨g, i * 3, none⟩ (.int .i64 (k : Int))) B (.slice (some ⟨g, 0, none⟩) n c) (d.set i ⟨k, y.hd, y.wv, y.ws⟩) := by
  have hn := own_len8 h.1
  subst hn
  have hg : W.grownBy (W.setCell ⟨g, i * 3, none⟩ (.int .i64 (k : Int))) (Value.slice (some ⟨g, 0, none⟩) d.length c).ownBlock := only_set (p := ⟨g, i * 3, none⟩) (only_refl W _) rfl _
  have h1 := World.ownsRow.stored (show W.ownsRow B _ 3 _ d.length _ from h.1) (i * 3) (.int .i64 (k : Int))
  have h2 := h1.1
  rw [flat_set8 d i y k hi] at h2
  refine ⟨?_, fun x hx => ?_⟩
  · unfold Ow
    rw [List.length_set]
    exact h2
  · have hm : ∃ x0 ∈ d, x0.wv = x.wv ∧ x0.ws = x.ws := by
      rcases List.mem_or_eq_of_mem_set hx with hx | rfl
      · exact ⟨x, hx, rfl, rfl⟩
      · exact ⟨y, List.mem_of_getElem? hi, rfl, rfl⟩
    obtain ⟨x0, h0, e1, e2⟩ := hm
    have h5 := (h.2 x0 h0).kept hg (ow_other (h.2 x0 h0) h.1 line_string.symm)
    rw [e1, e2] at h5
    exact h5
theorem Lg.cells {W : World} {B g n c i : Nat} {d : List Lx} {y : Lx} (h : Lg W B (.slice (some ⟨g, 0, none⟩) n c) d) (hi : d[i]? = some y) : W.cell? ⟨g, i * 3, none⟩ = some (.int .i64 (y.no : Int)) ∧ W.frozen? ⟨g, i * 3, none⟩ = false := by
  obtain ⟨b, off, e, hb, hc⟩ := (h.1.rl el_len).get hi
  injection e with e
  injection e with e1 e2
  subst e1 e2
  have := hc 0 _ rfl
  rw [Nat.zero_add, Nat.add_zero] at this
  exact ⟨this, h.1.frozen rfl _⟩
/-- Lines behind others. -/
theorem Lg.join {W W' : World} {B B2 : Nat} {v u v' : Value} {d f : List Lx} (h : Lg W B v d) (k : Lg W B2 u f) (ho : Ow 31 el 3 W' B v' (d ++ f)) (hg : W.grownBy W' v.ownBlock) : Lv W' v' (d ++ f) := by
  refine ⟨ho.rl el_len, fun x hx => ?_⟩
  rcases List.mem_append.1 hx with hx | hx
  · exact ((h.2 x hx).kept hg (ow_other (h.2 x hx) h.1 line_string.symm)).rl es_len
  · exact ((k.2 x hx).kept hg (ow_other (k.2 x hx) h.1 line_string.symm)).rl es_len
/-- The first k lines counted on by N. -/
def upTo (N : Nat) (d : List Lx) (k : Nat) (dk : List Lx) : Prop := dk.length = d.length ∧ ∀ j x, d[j]? = some x → ∃ y, dk[j]? = some y ∧ y.hd = x.hd ∧ y.ws = x.ws ∧ y.no = if j < k then x.no + N else x.no
theorem upTo.zero (N : Nat) (d : List Lx) : upTo N d 0 d := ⟨rfl, fun j x h => ⟨x, h, rfl, rfl, by simp⟩⟩
theorem upTo.next {N k : Nat} {d dk : List Lx} {y : Lx} (h : upTo N d k dk) (hy : dk[k]? = some y) : upTo N d (k + 1) (dk.set k ⟨y.no + N, y.hd, y.wv, y.ws⟩) := by
  refine ⟨by rw [List.length_set]; exact h.1, fun j x hx => ?_⟩
  obtain ⟨z, h1, h2, h3, h4⟩ := h.2 j x hx
  by_cases e : k = j
  · subst e
    rw [hy] at h1
    injection h1 with h1
    subst h1
    refine ⟨_, List.getElem?_set_self (List.getElem?_eq_some_iff.1 hy).1, h2, h3, ?_⟩
    rw [if_neg (by omega)] at h4
    rw [if_pos (by omega), ← h4]
  · refine ⟨z, by rw [List.getElem?_set_ne e]; exact h1, h2, h3, ?_⟩
    rw [h4]
    by_cases e2 : j < k
    · rw [if_pos e2, if_pos (by omega)]
    · rw [if_neg e2, if_neg (by omega)]
theorem upTo.done {N : Nat} {d dk : List Lx} (h : upTo N d d.length dk) : dk.map Lx.ln = (d.map Lx.ln).map (Ln.up N) := by
  apply List.ext_getElem?
  intro j
  by_cases hj : j < d.length
  · obtain ⟨x, hx⟩ := at8 hj
    obtain ⟨y, h1, h2, h3, h4⟩ := h.2 j x hx
    rw [List.getElem?_map, List.getElem?_map, List.getElem?_map, h1, hx]
    simp only [Option.map_some, Lx.ln, Ln.up, h2, h3, h4, if_pos hj]
  · rw [List.getElem?_eq_none (by rw [List.length_map, h.1]; omega), List.getElem?_eq_none (by simp; omega)]
end Go.Proofs.Ytinbeodihhjfmaa
