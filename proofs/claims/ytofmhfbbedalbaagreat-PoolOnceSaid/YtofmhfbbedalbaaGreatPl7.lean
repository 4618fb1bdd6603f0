
/-
  A pool that is written: a cut more, another cut; the search of Add.
-/
import Derived.Test.YtofmhfbbedalbaaGreatPl3
import Derived.Test.YtofmhfbbedalbaaGreatPl4


namespace Go.Proofs.YtofmhfbbedalbaaGreat
open Go.RowKit Go.Proofs.YtofmhfbbedalbaaGreat.Num
set_option linter.unusedVariables false
set_option linter.unusedSimpArgs false
set_option maxRecDepth 100000
theorem info_ct : (Tryz.prog.info? 79).map (fun i => (i.zero, i.size, i.bytes)) = some (some (.agg #[.int .i64 0, .slice none 0 0, .bool false, .slice none 0 0, .slice none 0 0, .int .i64 0]), 6, 96) := by kernel_rfl
theorem Plo.grow {W W' : World} {B g : Nat} {p : Int} {v v' : Sl} {l : List Cx} {x : Cx} {M : Nat} (h : Plo W B g p v l M) (hx : Kg W B x.k M) (hl : x.k.d.length ≤ 100) (ho : Ow 79 ec 6 W' B (sv v') (l ++ [x])) (hg : W.grownBy W' (sv v).ownBlock) :
    Plq W' g p v ∧ Plo (W'.setCell ⟨g, 1, none⟩ (sv v')) B g p v' (l ++ [x]) M := by
  have q' : Plq W' g p v := (hg.block g h.1.lt (fun e => ow_plq h.2.2.1 h.1 e.symm)).trans h.1
  refine ⟨q', q'.put v', h.2.1, ho.kept (only_set1 W' g 1 (sv v')) (.inr (ow_plq ho q')), fun y hy => ?_⟩
  have key : Kg W B y.k M ∧ y.k.d.length ≤ 100 := by
    rcases List.mem_append.1 hy with hy | hy
    · exact h.2.2.2 y hy
    · simp at hy
      subst hy
      exact ⟨hx, hl⟩
  exact ⟨(key.1.grownO hg (ow_oth h.2.2.1)).grownO (only_set1 W' g 1 (sv v')) (fun g' e => by injection e with e; subst e; exact q'.oth), key.2⟩
theorem flat_set6 : ∀ (d : List Cx) (i : Nat) (x : Cx), i < d.length → ((((((flat ec d).set (i * 6) (.int .i64 x.k.s)).set (i * 6 + 1) (sv x.k.v)).set (i * 6 + 2) (.bool x.k.x.s)).set (i * 6 + 3) (sv x.k.x.u)).set (i * 6 + 4) (sv x.k.x.t)).set (i * 6 + 5) (.int .i64 x.a) = flat ec (d.set i x)
  | [], i, x, h => by simp at h
  | y :: d, 0, x, _ => by simp [flat, ec]
  | y :: d, i + 1, x, h => by
    have ih := flat_set6 d i x (by simpa using h)
    rw [List.set_cons_succ, flat, flat, ← ih]
    simp only [ec, List.cons_append, List.nil_append, show (i + 1) * 6 + 1 = i * 6 + 1 + 1 + 1 + 1 + 1 + 1 + 1 by omega, show (i + 1) * 6 + 2 = i * 6 + 2 + 1 + 1 + 1 + 1 + 1 + 1 by omega, show (i + 1) * 6 + 3 = i * 6 + 3 + 1 + 1 + 1 + 1 + 1 + 1 by omega, show (i + 1) * 6 + 4 = i * 6 + 4 + 1 + 1 + 1 + 1 + 1 + 1 by omega, show (i + 1) * 6 + 5 = i * 6 + 5 + 1 + 1 + 1 + 1 + 1 + 1 by omega, show (i + 1) * 6 = i * 6 + 1 + 1 + 1 + 1 + 1 + 1 by omega, List.set_cons_succ]
abbrev put6 (W : World) (g a : Nat) (x : Cx) : World := (((((W.setCell ⟨g, a, none⟩ (.int .i64 x.k.s)).setCell ⟨g, a + 1, none⟩ (sv x.k.v)).setCell ⟨g, a + 2, none⟩ (.bool x.k.x.s)).setCell ⟨g, a + 3, none⟩ (sv x.k.x.u)).setCell ⟨g, a + 4, none⟩ (sv x.k.x.t)).setCell ⟨g, a + 5, none⟩ (.int .i64 x.a)
theorem only_put6 (W : World) (g a : Nat) (x : Cx) : W.grownBy (put6 W g a x) (some g) :=
  only_set (p := ⟨g, a + 5, none⟩) (only_set (p := ⟨g, a + 4, none⟩) (only_set (p := ⟨g, a + 3, none⟩) (only_set (p := ⟨g, a + 2, none⟩) (only_set (p := ⟨g, a + 1, none⟩) (only_set (p := ⟨g, a, none⟩) (only_refl W (some g)) rfl _) rfl _) rfl _) rfl _) rfl _) rfl _
theorem below_put6 {B : Nat} {w W : World} {g : Nat} (h : Below B w W) (hg : B ≤ g) (a : Nat) (x : Cx) : Below B w (put6 W g a x) :=
  (((((h.setCell (p := ⟨g, a, none⟩) hg _).setCell (p := ⟨g, a + 1, none⟩) hg _).setCell (p := ⟨g, a + 2, none⟩) hg _).setCell (p := ⟨g, a + 3, none⟩) hg _).setCell (p := ⟨g, a + 4, none⟩) hg _).setCell (p := ⟨g, a + 5, none⟩) hg _
theorem own_lenC {W : World} {B g n c : Nat} {d : List Cx} (h : Ow 79 ec 6 W B (.slice (some ⟨g, 0, none⟩) n c) d) : n = d.length := by
  rcases h.form with ⟨e, _⟩ | ⟨g', cap, cur, e, _⟩
  · cases e
  · injection e
theorem Ow.putC {W : World} {B g n c i : Nat} {d : List Cx} (h : Ow 79 ec 6 W B (.slice (some ⟨g, 0, none⟩) n c) d) (hi : i < d.length) (x : Cx) :
    Ow 79 ec 6 (put6 W g (i * 6) x) B (.slice (some ⟨g, 0, none⟩) n c) (d.set i x) := by
  have hn := own_lenC h
  subst hn
  have h1 := World.ownsRow.stored (World.ownsRow.stored (World.ownsRow.stored (World.ownsRow.stored (World.ownsRow.stored (World.ownsRow.stored (show W.ownsRow B _ 6 _ d.length _ from h) (i * 6) (.int .i64 x.k.s)).1 (i * 6 + 1) (sv x.k.v)).1 (i * 6 + 2) (.bool x.k.x.s)).1 (i * 6 + 3) (sv x.k.x.u)).1 (i * 6 + 4) (sv x.k.x.t)).1 (i * 6 + 5) (.int .i64 x.a)
  have h2 := h1.1
  rw [flat_set6 d i x hi] at h2
  unfold Ow
  rw [List.length_set]
  exact h2
theorem Ow.cellsC {W : World} {B g n c i : Nat} {d : List Cx} {x : Cx} (h : Ow 79 ec 6 W B (.slice (some ⟨g, 0, none⟩) n c) d) (hi : d[i]? = some x) :
    W.cell? ⟨g, i * 6, none⟩ = some (.int .i64 x.k.s) ∧ W.cell? ⟨g, i * 6 + 1, none⟩ = some (sv x.k.v) ∧ W.cell? ⟨g, i * 6 + 2, none⟩ = some (.bool x.k.x.s) ∧ W.cell? ⟨g, i * 6 + 3, none⟩ = some (sv x.k.x.u) ∧ W.cell? ⟨g, i * 6 + 4, none⟩ = some (sv x.k.x.t) ∧ W.cell? ⟨g, i * 6 + 5, none⟩ = some (.int .i64 x.a) := by
  obtain ⟨b, off, e, hb, hc⟩ := (h.rl ec_len).get hi
  injection e with e
  injection e with e1 e2
  subst e1 e2
  have c0 := hc 0 _ rfl
  have c1 := hc 1 _ rfl
  have c2 := hc 2 _ rfl
  have c3 := hc 3 _ rfl
  have c4 := hc 4 _ rfl
  have c5 := hc 5 _ rfl
  rw [Nat.zero_add] at c0 c1 c2 c3 c4 c5
  exact ⟨c0, c1, c2, c3, c4, c5⟩
theorem Plo.putc {W : World} {B g a n c i : Nat} {p : Int} {l : List Cx} {x y : Cx} {M : Nat} (h : Plo W B g p (some ⟨a, 0, none⟩, n, c) l M) (hi : l[i]? = some y) (hx : Kg W B x.k M) (hl : x.k.d.length ≤ 100) :
    Plo (put6 W a (i * 6) x) B g p (some ⟨a, 0, none⟩, n, c) (l.set i x) M := by
  have hoth : ∀ g', some a = some g' → Oth W g' := fun g' e => ow_oth h.2.2.1 g' (by rw [← e]; rfl)
  have hne : a ≠ g := fun e => ow_plq h.2.2.1 h.1 (by rw [← e]; rfl)
  have hq : Plq (put6 W a (i * 6) x) g p (some ⟨a, 0, none⟩, n, c) := ((only_put6 W a (i * 6) x).block g h.1.lt (fun e => hne (Option.some.inj e).symm)).trans h.1
  refine ⟨hq, h.2.1, Ow.putC h.2.2.1 (List.getElem?_eq_some_iff.1 hi).1 x, fun z hz => ?_⟩
  have key : Kg W B z.k M ∧ z.k.d.length ≤ 100 := by
    rcases List.mem_or_eq_of_mem_set hz with hz | rfl
    · exact h.2.2.2 z hz
    · exact ⟨hx, hl⟩
  exact ⟨key.1.grownO (only_put6 W a (i * 6) x) hoth, key.2⟩
theorem cvs_append (l : List Cx) (x : Cx) : cvs (l ++ [x]) = cvs l ++ [cv x.k] := by simp [cvs]
theorem cvs_set (l : List Cx) (i : Nat) (x : Cx) : cvs (l.set i x) = (cvs l).set i (cv x.k) := by simp [cvs, List.map_set]
theorem cvs_get {l : List Cx} {i : Nat} {x : Cx} (h : l[i]? = some x) : (cvs l)[i]? = some (cv x.k) := by simp [cvs, h]
theorem cvs_back {l : List Cx} {c : Ct} (h : c ∈ cvs l) : ∃ (i : Nat) (x : Cx), l[i]? = some x ∧ c = cv x.k := by
  obtain ⟨x, hx, rfl⟩ := List.mem_map.1 h
  obtain ⟨i, hi⟩ := List.mem_iff_getElem?.1 hx
  exact ⟨i, x, hi, rfl⟩
def Lsr (l : List Cx) (c : Ct) (k : Nat) (o : Int) : Prop :=
  (∀ (j : Nat) x, j < k → l[j]? = some x → (cv x.k).2.1 = c.2.1 → ¬ Dc (cv x.k) c) ∧
  ((o = -1 ∧ ∀ (j : Nat) x, j < k → l[j]? = some x → ¬ ((cv x.k).1 = c.1 ∧ (cv x.k).2.1 = c.2.1)) ∨
   ∃ (j : Nat) (x : Cx), o = (j : Int) ∧ j < k ∧ l[j]? = some x ∧ (cv x.k).1 = c.1 ∧ (cv x.k).2.1 = c.2.1)
theorem Lsr.zero (l : List Cx) (c : Ct) : Lsr l c 0 (-1) := ⟨fun j x h => by omega, .inl ⟨rfl, fun j x h => by omega⟩⟩
theorem Lsr.next {l : List Cx} {c : Ct} {k : Nat} {o o' : Int} {x : Cx} (h : Lsr l c k o) (hx : l[k]? = some x) (hd : (cv x.k).2.1 = c.2.1 → ¬ Dc (cv x.k) c)
    (ho : (o' = o ∧ ¬ ((cv x.k).1 = c.1 ∧ (cv x.k).2.1 = c.2.1)) ∨ (o' = (k : Int) ∧ (cv x.k).1 = c.1 ∧ (cv x.k).2.1 = c.2.1)) : Lsr l c (k + 1) o' := by
  have up : ∀ (j : Nat) (y : Cx), j < k + 1 → l[j]? = some y → (j < k ∨ y = x) := by
    intro j y hj hy
    by_cases e : j = k
    · subst e
      rw [hx] at hy
      exact .inr (Option.some.inj hy).symm
    · exact .inl (by omega)
  refine ⟨fun j y hj hy => ?_, ?_⟩
  · rcases up j y hj hy with h1 | rfl
    · exact h.1 j y h1 hy
    · exact hd
  · rcases ho with ⟨rfl, hn⟩ | ⟨rfl, h1, h2⟩
    · rcases h.2 with ⟨e, h3⟩ | ⟨j, y, e, hj, hy, h4⟩
      · refine .inl ⟨e, fun j y hj hy => ?_⟩
        rcases up j y hj hy with h1 | rfl
        · exact h3 j y h1 hy
        · exact hn
      · exact .inr ⟨j, y, e, by omega, hy, h4⟩
    · exact .inr ⟨k, x, rfl, by omega, hx, h1, h2⟩
theorem Lsr.none {l : List Cx} {c : Ct} {k : Nat} {o : Int} (h : Lsr l c k o) (hk : l.length ≤ k) : ∀ x ∈ cvs l, x.2.1 = c.2.1 → ¬ Dc x c := by
  intro x hx
  obtain ⟨i, y, hy, rfl⟩ := cvs_back hx
  exact h.1 i y (Nat.lt_of_lt_of_le (List.getElem?_eq_some_iff.1 hy).1 hk) hy
theorem Lsr.add {l : List Cx} {c : Ct} {k : Nat} {x : Cx} (h : Lsr l c k (-1)) (hk : l.length ≤ k) (hx : cv x.k = c) (h1 : IsS c.1) (h2 : c.2.1 ≠ []) : Put (cvs l) c true (cvs (l ++ [x])) := by
  refine .inr ⟨rfl, h1, h2, h.none hk, .inl ⟨by rw [cvs_append, hx], fun y hy => ?_⟩⟩
  obtain ⟨i, z, hz, rfl⟩ := cvs_back hy
  rcases h.2 with ⟨_, h3⟩ | ⟨j, y, e, _⟩
  · exact h3 i z (Nat.lt_of_lt_of_le (List.getElem?_eq_some_iff.1 hz).1 hk) hz
  · omega
theorem Lsr.set {l : List Cx} {c : Ct} {k j : Nat} {o : Int} {x y : Cx} (h : Lsr l c k o) (hk : l.length ≤ k) (hy : l[j]? = some y) (h3 : (cv y.k).1 = c.1) (h4 : (cv y.k).2.1 = c.2.1) (hx : cv x.k = c) (h1 : IsS c.1) (h2 : c.2.1 ≠ []) : Put (cvs l) c true (cvs (l.set j x)) :=
  .inr ⟨rfl, h1, h2, h.none hk, .inr ⟨j, cv y.k, cvs_get hy, h3, h4, by rw [cvs_set, hx]⟩⟩
end Go.Proofs.YtofmhfbbedalbaaGreat
