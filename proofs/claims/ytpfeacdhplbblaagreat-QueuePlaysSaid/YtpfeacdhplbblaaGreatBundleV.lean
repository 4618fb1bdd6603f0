/-
  Shared texts, one behind the other: Qm, Qu1, Qu2.
-/
import Derived.Test.YtpfeacdhplbblaaGreatTv
import Derived.Test.YtpfeacdhplbblaaGreatBundleO
import Derived.BigRegion

namespace Go.Proofs.YtpfeacdhplbblaaGreat
open Go.RowKit Go.Proofs.YtpfeacdhplbblaaGreat.Num
set_option linter.unusedVariables false
set_option linter.unusedSimpArgs false
set_option maxRecDepth 100000
structure Nx where
  id : Int
  dp : Int
  x : Rx
instance : Inhabited Nx := ⟨⟨0, 0, default⟩⟩
def en (n : Nx) : List Value := [.int .i64 n.id, .int .i64 n.dp, .bool n.x.s, sv n.x.u, sv n.x.t]
theorem en_len (n : Nx) : (en n).length = 5 := rfl
theorem en_one (n : Nx) : ∀ u ∈ en n, u.oneCell' = true := by
  intro u hu
  simp [en] at hu
  rcases hu with rfl | rfl | rfl | rfl | rfl <;> rfl
abbrev Ky := Int × Int × Rat
def ky (n : Nx) : Ky := (n.id, n.dp, n.x.r)
def ak (o : Int) (p q : Ky) : Prop :=
  (o = 1 ∧ (q.2.1 < p.2.1 ∨ (p.2.1 = q.2.1 ∧ (p.2.2 < q.2.2 ∨ (p.2.2 = q.2.2 ∧ p.1 < q.1))))) ∨
  (o ≠ 1 ∧ (p.2.2 < q.2.2 ∨ (p.2.2 = q.2.2 ∧ (q.2.1 < p.2.1 ∨ (p.2.1 = q.2.1 ∧ p.1 < q.1)))))
theorem ak_irrefl (o : Int) (p : Ky) : ¬ ak o p p := by unfold ak; grind
theorem ak_trans {o : Int} {p q r : Ky} (h1 : ak o p q) (h2 : ak o q r) : ak o p r := by unfold ak at *; grind
theorem ak_asymm {o : Int} {p q : Ky} (h : ak o p q) : ¬ ak o q p := fun h2 => ak_irrefl o p (ak_trans h h2)
theorem ak_neg {o : Int} {p q r : Ky} (h1 : ¬ ak o p q) (h2 : ¬ ak o q r) : ¬ ak o p r := by unfold ak at *; grind
abbrev ah (o : Int) (m n : Nx) : Prop := ak o (ky m) (ky n)
def Hn (o : Int) (l : List Nx) (n : Nat) : Prop := ∀ i x y, 0 < i → i < n → l[i]? = some x → l[(i - 1) / 2]? = some y → ¬ ah o x y
def Hu (o : Int) (l : List Nx) (k n : Nat) : Prop :=
  (∀ i x y, 0 < i → i < n → i ≠ k → l[i]? = some x → l[(i - 1) / 2]? = some y → ¬ ah o x y) ∧
  (0 < k → ∀ i x z, 0 < i → i < n → (i - 1) / 2 = k → l[i]? = some x → l[(k - 1) / 2]? = some z → ¬ ah o x z)
def Hdn (o : Int) (l : List Nx) (k n : Nat) : Prop :=
  (∀ i x y, 0 < i → i < n → (i - 1) / 2 ≠ k → l[i]? = some x → l[(i - 1) / 2]? = some y → ¬ ah o x y) ∧
  (0 < k → ∀ i x z, 0 < i → i < n → (i - 1) / 2 = k → l[i]? = some x → l[(k - 1) / 2]? = some z → ¬ ah o x z)
theorem set_permN : ∀ (l : List Nx) (i : Nat) (b : Nx), i < l.length → (l.set i b).Perm (b :: l.eraseIdx i)
  | [], i, b, h => by simp at h
  | a :: r, 0, b, h => by simp
  | a :: r, i + 1, b, h => by
    rw [List.set_cons_succ, List.eraseIdx_cons_succ]
    exact ((set_permN r i b (by simpa using h)).cons a).trans (List.Perm.swap b a _)
theorem get_permN {l : List Nx} {i : Nat} (h : i < l.length) : (l[i] :: l.eraseIdx i).Perm l := by
  have := set_permN l i l[i] h
  rw [List.set_getElem_self] at this
  exact this.symm
def swp (l : List Nx) (i j : Nat) (a b : Nx) : List Nx := (l.set i b).set j a
theorem swp_perm {l : List Nx} {i j : Nat} {a b : Nx} (hi : l[i]? = some a) (hj : l[j]? = some b) (hne : i ≠ j) : (swp l i j a b).Perm l := by
  obtain ⟨h1, e1⟩ := List.getElem?_eq_some_iff.1 hi
  obtain ⟨h2, e2⟩ := List.getElem?_eq_some_iff.1 hj
  have hj' : j < (l.set i b).length := by simpa using h2
  have p1 : (swp l i j a b).Perm (a :: (l.set i b).eraseIdx j) := set_permN _ _ a hj'
  have p2 : ((l.set i b)[j] :: (l.set i b).eraseIdx j).Perm (l.set i b) := get_permN hj'
  have e3 : (l.set i b)[j] = b := by rw [List.getElem_set_ne hne]; exact e2
  rw [e3] at p2
  have p3 : (l.set i b).Perm (b :: l.eraseIdx i) := set_permN _ _ b h1
  have p4 : ((l.set i b).eraseIdx j).Perm (l.eraseIdx i) := (p2.trans p3).cons_inv
  have p5 : (l[i] :: l.eraseIdx i).Perm l := get_permN h1
  rw [e1] at p5
  exact p1.trans ((p4.cons a).trans p5)
theorem swp_get {l : List Nx} {i j k : Nat} {a b : Nx} (hi : i < l.length) (hj : j < l.length) (hne : i ≠ j) : (swp l i j a b)[k]? = if k = j then some a else if k = i then some b else l[k]? := by
  unfold swp
  by_cases e1 : k = j
  · subst e1
    rw [if_pos rfl, List.getElem?_set_self (by simpa using hj)]
  · rw [if_neg e1, List.getElem?_set_ne (Ne.symm e1)]
    by_cases e2 : k = i
    · subst e2
      rw [if_pos rfl, List.getElem?_set_self hi]
    · rw [if_neg e2, List.getElem?_set_ne (Ne.symm e2)]
theorem Hu.done {o : Int} {l : List Nx} {k n : Nat} (h : Hu o l k n) (hk : k = 0 ∨ ∃ x y, l[k]? = some x ∧ l[(k - 1) / 2]? = some y ∧ ¬ ah o x y) : Hn o l n := by
  intro i x y h0 hi hx hy
  by_cases e : i = k
  · subst e
    rcases hk with hk | ⟨x', y', h1, h2, h3⟩
    · omega
    · rw [hx] at h1; rw [hy] at h2
      cases h1; cases h2
      exact h3
  · exact h.1 i x y h0 hi e hx hy
theorem Hu.swap {o : Int} {l : List Nx} {k n : Nat} {a b : Nx} (h : Hu o l k n) (hk0 : 0 < k) (hkn : k < n) (hn : n ≤ l.length) (ha : l[k]? = some a) (hb : l[(k - 1) / 2]? = some b) (hab : ah o a b) : Hu o (swp l k ((k - 1) / 2) a b) ((k - 1) / 2) n := by
  have hpk : (k - 1) / 2 < k := by omega
  have g := fun (m : Nat) => swp_get (l := l) (i := k) (j := (k - 1) / 2) (k := m) (a := a) (b := b) (by omega) (by omega) (by omega)
  refine ⟨fun i x y h0 hi hne hx hy => ?_, fun hp i x z h0 hi he hx hz => ?_⟩
  · rw [g] at hx hy
    rw [if_neg hne] at hx
    by_cases e1 : i = k
    · subst e1
      rw [if_pos rfl] at hx hy
      cases hx; cases hy
      exact ak_asymm hab
    · rw [if_neg e1] at hx
      by_cases e2 : (i - 1) / 2 = (k - 1) / 2
      · rw [if_pos e2] at hy
        cases hy
        intro h9
        exact h.1 i x b h0 hi e1 hx (by rw [e2]; exact hb) (ak_trans h9 hab)
      · rw [if_neg e2] at hy
        by_cases e3 : (i - 1) / 2 = k
        · rw [if_pos e3] at hy
          cases hy
          exact h.2 hk0 i x b h0 hi e3 hx hb
        · rw [if_neg e3] at hy
          exact h.1 i x y h0 hi e1 hx hy
  · rw [g] at hx hz
    rw [if_neg (by omega), if_neg (by omega)] at hz
    rw [if_neg (by omega)] at hx
    have hbz : ¬ ah o b z := h.1 _ b z hp (by omega) (by omega) hb hz
    by_cases e1 : i = k
    · rw [if_pos e1] at hx
      cases hx
      exact hbz
    · rw [if_neg e1] at hx
      exact ak_neg (h.1 i x b h0 hi e1 hx (by rw [he]; exact hb)) hbz
theorem Hdn.swap {o : Int} {l : List Nx} {k c n : Nat} {a b : Nx} (h : Hdn o l k n) (hc0 : 0 < c) (hcn : c < n) (hn : n ≤ l.length) (hck : (c - 1) / 2 = k) (ha : l[k]? = some a) (hb : l[c]? = some b) (hab : ah o b a)
    (hm : ∀ i x, 0 < i → i < n → (i - 1) / 2 = k → l[i]? = some x → ¬ ah o x b) : Hdn o (swp l k c a b) c n := by
  have hkc : k < c := by omega
  have g := fun (m : Nat) => swp_get (l := l) (i := k) (j := c) (k := m) (a := a) (b := b) (by omega) (by omega) (by omega)
  refine ⟨fun i x y h0 hi hne hx hy => ?_, fun hp i x z h0 hi he hx hz => ?_⟩
  · rw [g] at hx hy
    rw [if_neg hne] at hy
    by_cases e1 : i = c
    · subst e1
      rw [if_pos rfl] at hx
      rw [if_pos hck] at hy
      cases hx; cases hy
      exact ak_asymm hab
    · rw [if_neg e1] at hx
      by_cases e2 : i = k
      · subst e2
        rw [if_pos rfl] at hx
        rw [if_neg (by omega)] at hy
        cases hx
        exact h.2 h0 c b y hc0 hcn hck hb hy
      · rw [if_neg e2] at hx
        by_cases e3 : (i - 1) / 2 = k
        · rw [if_pos e3] at hy
          cases hy
          exact hm i x h0 hi e3 hx
        · rw [if_neg e3] at hy
          exact h.1 i x y h0 hi e3 hx hy
  · rw [g] at hx hz
    rw [hck, if_neg (by omega), if_pos rfl] at hz
    rw [if_neg (by omega), if_neg (by omega)] at hx
    cases hz
    exact h.1 i x b h0 hi (by omega) hx (by rw [he]; exact hb)
theorem Hn.first {o : Int} {l : List Nx} {n : Nat} {y : Nx} (h : Hn o l n) (hn : n ≤ l.length) (hy : l[0]? = some y) : ∀ i x, i < n → l[i]? = some x → ¬ ah o x y := by
  intro i
  induction i using Nat.strongRecOn with
  | _ i ih =>
    intro x hi hx
    by_cases h0 : i = 0
    · subst h0
      rw [hx] at hy
      cases hy
      exact ak_irrefl _ _
    · have hp : (i - 1) / 2 < l.length := by omega
      have hz : l[(i - 1) / 2]? = some l[(i - 1) / 2] := List.getElem?_eq_getElem hp
      exact ak_neg (h i x _ (by omega) hi hx hz) (ih _ (by omega) _ (by omega) hz)
theorem Hn.firstM {o : Int} {l : List Nx} {y : Nx} (h : Hn o l l.length) (hy : l[0]? = some y) : ∀ x ∈ l, ¬ ah o x y := by
  intro x hx
  obtain ⟨i, hi⟩ := List.mem_iff_getElem?.1 hx
  exact h.first (Nat.le_refl _) hy i x (List.getElem?_eq_some_iff.1 hi).1 hi
theorem Hn.push {o : Int} {l : List Nx} (h : Hn o l l.length) (x : Nx) : Hu o (l ++ [x]) l.length (l.length + 1) := by
  refine ⟨fun i a b h0 hi hne ha hb => ?_, fun hp i a z h0 hi he => by omega⟩
  rw [List.getElem?_append_left (by omega)] at ha hb
  exact h i a b h0 (by omega) ha hb
theorem Hn.more {o : Int} {l : List Nx} {k : Nat} (h : Hn o l k) : Hu o l k (k + 1) :=
  ⟨fun i a b h0 hi hne ha hb => h i a b h0 (by omega) ha hb, fun hp i a z h0 hi he => by omega⟩
theorem Hn.zero (o : Int) (l : List Nx) : Hn o l 0 := fun i x y h0 hi => by omega
theorem Hn.pop {o : Int} {l : List Nx} {y : Nx} (h : Hn o l l.length) : Hdn o ((l.set 0 y).take (l.length - 1)) 0 (l.length - 1) := by
  refine ⟨fun i a b h0 hi hne ha hb => ?_, fun hp => by omega⟩
  rw [List.getElem?_take, if_pos (by omega), List.getElem?_set_ne (by omega)] at ha
  rw [List.getElem?_take, if_pos (by omega), List.getElem?_set_ne (by omega)] at hb
  exact h i a b h0 (by omega) ha hb
theorem pop_perm {l : List Nx} {a y : Nx} (ha : l[0]? = some a) (hy : l[l.length - 1]? = some y) : (a :: (l.set 0 y).take (l.length - 1)).Perm l := by
  cases l with
  | nil => cases ha
  | cons b r =>
    simp at ha
    subst ha
    rcases List.eq_nil_or_concat r with rfl | ⟨r', z, er⟩
    · simp
    · rw [List.concat_eq_append] at er
      subst er
      have e1 : (b :: (r' ++ [z])).length - 1 = r'.length + 1 := by simp
      rw [e1] at hy ⊢
      have hz : y = z := by
        rw [List.getElem?_cons_succ, List.getElem?_append_right (by omega)] at hy
        simpa using hy.symm
      subst hz
      rw [List.set_cons_zero, List.take_succ_cons, List.take_left' rfl]
      exact (List.perm_append_comm (l₁ := [y]) (l₂ := r')).cons b
abbrev nx (n : Nx) : Value := .agg #[.int .i64 n.id, .int .i64 n.dp, .bool n.x.s, sv n.x.u, sv n.x.t]
abbrev nbox (n : Nx) : Obj := .cells #[.int .i64 n.id, .int .i64 n.dp, .bool n.x.s, sv n.x.u, sv n.x.t] 38
def Nq (W : World) (g : Nat) (n : Nx) : Prop := W.heap[g]? = some (nbox n)
theorem Nq.new (w : World) (n : Nx) : Nq (w.alloc (nbox n)) w.heap.size n := heap_alloc_new w _
theorem Nq.lt {W : World} {g : Nat} {n : Nx} (h : Nq W g n) : g < W.heap.size := by unfold Nq at h; exact (Array.getElem?_eq_some_iff.1 h).1
theorem Nq.step {W W' : World} {g : Nat} {n : Nx} (h : Nq W g n) (hb : Below W.heap.size W W') : Nq W' g n := (hb.block g h.lt).trans h
theorem Nq.all {W : World} {g : Nat} {n : Nx} (h : Nq W g n) : W.cell? ⟨g, 0, none⟩ = some (.int .i64 n.id) ∧ W.cell? ⟨g, 1, none⟩ = some (.int .i64 n.dp) ∧ W.cell? ⟨g, 2, none⟩ = some (.bool n.x.s) ∧ W.cell? ⟨g, 3, none⟩ = some (sv n.x.u) ∧ W.cell? ⟨g, 4, none⟩ = some (sv n.x.t) :=
  ⟨cell_of_row W g 0 _ _ _ h, cell_of_row W g 1 _ _ _ h, cell_of_row W g 2 _ _ _ h, cell_of_row W g 3 _ _ _ h, cell_of_row W g 4 _ _ _ h⟩
theorem Nq.fz {W : World} {g : Nat} {n : Nx} (h : Nq W g n) (j : Nat) : W.frozen? ⟨g, j, none⟩ = false := frozen_of_row W g j _ _ h
def Quq (W : World) (g : Nat) (o : Int) (v : Sl) : Prop := W.heap[g]? = some (.cells #[.int .i64 o, sv v] 58 (0, 0))
theorem Quq.lt {W : World} {g : Nat} {o : Int} {v : Sl} (h : Quq W g o v) : g < W.heap.size := by unfold Quq at h; exact (Array.getElem?_eq_some_iff.1 h).1
theorem Quq.step {W W' : World} {g : Nat} {o : Int} {v : Sl} (h : Quq W g o v) (hb : Below W.heap.size W W') : Quq W' g o v := (hb.block g h.lt).trans h
theorem Quq.c0 {W : World} {g : Nat} {o : Int} {v : Sl} (h : Quq W g o v) : W.cell? ⟨g, 0, none⟩ = some (.int .i64 o) := cell_of_row W g 0 _ _ _ h
theorem Quq.c {W : World} {g : Nat} {o : Int} {v : Sl} (h : Quq W g o v) : W.cell? ⟨g, 1, none⟩ = some (sv v) := cell_of_row W g 1 _ _ _ h
theorem Quq.fz {W : World} {g : Nat} {o : Int} {v : Sl} (h : Quq W g o v) (j : Nat) : W.frozen? ⟨g, j, none⟩ = false := frozen_of_row W g j _ _ h
theorem Quq.put {W : World} {g : Nat} {o : Int} {v : Sl} (h : Quq W g o v) (u : Sl) : Quq (W.setCell ⟨g, 1, none⟩ (sv u)) g o u := heap_setCell_same W g 1 _ _ (sv u) h
def Qo (W : World) (B g : Nat) (o : Int) (v : Sl) (l : List Nx) (M : Nat) : Prop :=
  Quq W g o v ∧ B ≤ g ∧ Ow 38 en 5 W B (sv v) l ∧ ∀ x ∈ l, Rg W B x.x M
theorem Qo.step {W W' : World} {B g : Nat} {o : Int} {v : Sl} {l : List Nx} {M : Nat} (h : Qo W B g o v l M) (hb : Below W.heap.size W W') : Qo W' B g o v l M :=
  ⟨h.1.step hb, h.2.1, h.2.2.1.step hb, fun x hx => (h.2.2.2 x hx).step hb⟩
theorem Qo.rd {W : World} {B g : Nat} {o : Int} {v : Sl} {l : List Nx} {M : Nat} (h : Qo W B g o v l M) : Lr en 5 W (sv v) l := h.2.2.1.rl en_len
theorem lr_nQ {α : Type} {enc : α → List Value} {k : Nat} {W : World} {A : Option Addr} {n c : Nat} {d : List α} (h : Lr enc k W (.slice A n c) d) : n = d.length ∧ c ≤ maxLen ∧ n ≤ c := by
  obtain ⟨A', c', e, h1, h2, h3⟩ := h
  injection e with e1 e2 e3
  exact ⟨e2, by rw [e3]; exact h2, by rw [e2, e3]; exact h1⟩
theorem ow_quq {W : World} {B g : Nat} {o : Int} {u : Sl} {v : Value} {l : List Nx} (h : Ow 38 en 5 W B v l) (hq : Quq W g o u) : v.ownBlock ≠ some g := by
  intro hg
  rcases h.form with ⟨rfl, _⟩ | ⟨g', cap, cur, rfl, hB, hlt, hh, r⟩
  · cases hg
  · have e : g' = g := by simpa [Value.ownBlock] using hg
    subst e
    unfold Quq at hq
    rw [hq] at hh
    injection hh with hh
    injection hh with _ e2 _
    exact absurd e2 (by decide)
theorem Ow.otN {W : World} {B : Nat} {v : Value} {d : List Nx} (h : Ow 38 en 5 W B v d) : ∀ g, v.ownBlock = some g → Ot W g := by
  intro g hg
  rcases h.form with ⟨rfl, _⟩ | ⟨g', cap, cur, rfl, hB, hlt, hh, r⟩
  · cases hg
  · have e : g' = g := by simpa [Value.ownBlock] using hg
    subst e
    exact ⟨cur, _, _, hh, by decide⟩
theorem Quq.ot {W : World} {g : Nat} {o : Int} {v : Sl} (h : Quq W g o v) : Ot W g := ⟨_, _, _, h, by decide⟩
theorem only_set1 (W : World) (g j : Nat) (u : Value) : W.grownBy (W.setCell ⟨g, j, none⟩ u) (some g) := only_set (only_refl W (some g)) rfl u
def Efq (w w' : World) (B g : Nat) (v v' : Sl) : Prop :=
  Below B w w' ∧ (∀ b, b < w.heap.size → b ≠ g → (sv v).ownBlock ≠ some b → w'.heap[b]? = w.heap[b]?) ∧ ((sv v').ownBlock = (sv v).ownBlock ∨ ∀ b, (sv v').ownBlock = some b → w.heap.size ≤ b)
theorem Efq.refl (w : World) (B g : Nat) (v : Sl) : Efq w w B g v v := ⟨Below.refl _ _, fun _ _ _ _ => rfl, .inl rfl⟩
theorem Efq.of {w w' : World} {B g : Nat} {v : Sl} (h : Below w.heap.size w w') (hB : B ≤ w.heap.size) : Efq w w' B g v v := ⟨h.mono hB, fun b hb _ _ => h.block b hb, .inl rfl⟩
theorem Efq.trans {w w' w2 : World} {B g : Nat} {v v' v2 : Sl} (h : Efq w w' B g v v') (k : Efq w' w2 B g v' v2) : Efq w w2 B g v v2 := by
  have hs := h.1.size
  refine ⟨h.1.trans k.1, fun b hb hg hv => ?_, ?_⟩
  · refine (k.2.1 b (Nat.lt_of_lt_of_le hb hs) hg (fun e => ?_)).trans (h.2.1 b hb hg hv)
    rcases h.2.2 with h3 | h3
    · exact hv (h3 ▸ e)
    · have := h3 b e
      omega
  · rcases k.2.2 with k3 | k3
    · rcases h.2.2 with h3 | h3
      · exact .inl (k3.trans h3)
      · exact .inr (fun b e => h3 b (k3 ▸ e))
    · exact .inr (fun b e => Nat.le_trans hs (k3 b e))
theorem Efq.step {w w' w2 : World} {B g : Nat} {v v' : Sl} (h : Efq w w' B g v v') (hb : Below w'.heap.size w' w2) (hB : B ≤ w'.heap.size) : Efq w w2 B g v v' := h.trans (Efq.of hb hB)
theorem flat_set5 : ∀ (d : List Nx) (i : Nat) (x : Nx), i < d.length → (((((flat en d).set (i * 5) (.int .i64 x.id)).set (i * 5 + 1) (.int .i64 x.dp)).set (i * 5 + 2) (.bool x.x.s)).set (i * 5 + 3) (sv x.x.u)).set (i * 5 + 4) (sv x.x.t) = flat en (d.set i x)
  | [], i, x, h => by simp at h
  | y :: d, 0, x, _ => by simp [flat, en]
  | y :: d, i + 1, x, h => by
    have ih := flat_set5 d i x (by simpa using h)
    rw [List.set_cons_succ, flat, flat, ← ih]
    simp only [en, List.cons_append, List.nil_append, show (i + 1) * 5 + 1 = i * 5 + 1 + 1 + 1 + 1 + 1 + 1 by omega, show (i + 1) * 5 + 2 = i * 5 + 2 + 1 + 1 + 1 + 1 + 1 by omega, show (i + 1) * 5 + 3 = i * 5 + 3 + 1 + 1 + 1 + 1 + 1 by omega, show (i + 1) * 5 + 4 = i * 5 + 4 + 1 + 1 + 1 + 1 + 1 by omega, show (i + 1) * 5 = i * 5 + 1 + 1 + 1 + 1 + 1 by omega, List.set_cons_succ]
abbrev put5n (W : World) (g a : Nat) (x : Nx) : World := ((((W.setCell ⟨g, a, none⟩ (.int .i64 x.id)).setCell ⟨g, a + 1, none⟩ (.int .i64 x.dp)).setCell ⟨g, a + 2, none⟩ (.bool x.x.s)).setCell ⟨g, a + 3, none⟩ (sv x.x.u)).setCell ⟨g, a + 4, none⟩ (sv x.x.t)
theorem only_put5n (W : World) (g a : Nat) (x : Nx) : W.grownBy (put5n W g a x) (some g) :=
  only_set (p := ⟨g, a + 4, none⟩) (only_set (p := ⟨g, a + 3, none⟩) (only_set (p := ⟨g, a + 2, none⟩) (only_set (p := ⟨g, a + 1, none⟩) (only_set (p := ⟨g, a, none⟩) (only_refl W (some g)) rfl _) rfl _) rfl _) rfl _) rfl _
theorem below_put5n {B : Nat} {w W : World} {g : Nat} (h : Below B w W) (hg : B ≤ g) (a : Nat) (x : Nx) : Below B w (put5n W g a x) :=
  ((((h.setCell (p := ⟨g, a, none⟩) hg _).setCell (p := ⟨g, a + 1, none⟩) hg _).setCell (p := ⟨g, a + 2, none⟩) hg _).setCell (p := ⟨g, a + 3, none⟩) hg _).setCell (p := ⟨g, a + 4, none⟩) hg _
theorem own_lenN {W : World} {B g n c : Nat} {d : List Nx} (h : Ow 38 en 5 W B (.slice (some ⟨g, 0, none⟩) n c) d) : n = d.length := by
  rcases h.form with ⟨e, _⟩ | ⟨g', cap, cur, e, _⟩
  · cases e
  · injection e
theorem Ow.putN {W : World} {B g n c i : Nat} {d : List Nx} (h : Ow 38 en 5 W B (.slice (some ⟨g, 0, none⟩) n c) d) (hi : i < d.length) (x : Nx) :
    Ow 38 en 5 (put5n W g (i * 5) x) B (.slice (some ⟨g, 0, none⟩) n c) (d.set i x) := by
  have hn := own_lenN h
  subst hn
  have h1 := World.ownsRow.stored (World.ownsRow.stored (World.ownsRow.stored (World.ownsRow.stored (World.ownsRow.stored (show W.ownsRow B _ 5 _ d.length _ from h) (i * 5) (.int .i64 x.id)).1 (i * 5 + 1) (.int .i64 x.dp)).1 (i * 5 + 2) (.bool x.x.s)).1 (i * 5 + 3) (sv x.x.u)).1 (i * 5 + 4) (sv x.x.t)
  have h2 := h1.1
  rw [flat_set5 d i x hi] at h2
  unfold Ow
  rw [List.length_set]
  exact h2
theorem Ow.cellsN {W : World} {B g n c i : Nat} {d : List Nx} {x : Nx} (h : Ow 38 en 5 W B (.slice (some ⟨g, 0, none⟩) n c) d) (hi : d[i]? = some x) :
    W.cell? ⟨g, i * 5, none⟩ = some (.int .i64 x.id) ∧ W.cell? ⟨g, i * 5 + 1, none⟩ = some (.int .i64 x.dp) ∧ W.cell? ⟨g, i * 5 + 2, none⟩ = some (.bool x.x.s) ∧ W.cell? ⟨g, i * 5 + 3, none⟩ = some (sv x.x.u) ∧ W.cell? ⟨g, i * 5 + 4, none⟩ = some (sv x.x.t) := by
  obtain ⟨b, off, e, hb, hc⟩ := (h.rl en_len).get hi
  injection e with e
  injection e with e1 e2
  subst e1 e2
  have c0 := hc 0 _ rfl
  have c1 := hc 1 _ rfl
  have c2 := hc 2 _ rfl
  have c3 := hc 3 _ rfl
  have c4 := hc 4 _ rfl
  rw [Nat.zero_add] at c0 c1 c2 c3 c4
  exact ⟨c0, c1, c2, c3, c4⟩
theorem Qo.put {W : World} {B g a n c i : Nat} {o : Int} {l : List Nx} {x y : Nx} {M : Nat} (h : Qo W B g o (some ⟨a, 0, none⟩, n, c) l M) (hi : l[i]? = some y) (hx : Rg W B x.x M) :
    Qo (put5n W a (i * 5) x) B g o (some ⟨a, 0, none⟩, n, c) (l.set i x) M := by
  have hoth : ∀ g', some a = some g' → Ot W g' := fun g' e => h.2.2.1.otN g' (by rw [← e]; rfl)
  have hne : a ≠ g := fun e => ow_quq h.2.2.1 h.1 (by rw [← e]; rfl)
  have hq : Quq (put5n W a (i * 5) x) g o (some ⟨a, 0, none⟩, n, c) := ((only_put5n W a (i * 5) x).block g h.1.lt (fun e => hne (Option.some.inj e).symm)).trans h.1
  refine ⟨hq, h.2.1, Ow.putN h.2.2.1 (List.getElem?_eq_some_iff.1 hi).1 x, fun z hz => ?_⟩
  have key : Rg W B z.x M := by
    rcases List.mem_or_eq_of_mem_set hz with hz | rfl
    · exact h.2.2.2 z hz
    · exact hx
  exact key.grownT (only_put5n W a (i * 5) x) hoth
theorem Qo.form {W : World} {B g : Nat} {o : Int} {v : Sl} {l : List Nx} {M : Nat} (h : Qo W B g o v l M) {i : Nat} {x : Nx} (hx : l[i]? = some x) : ∃ a c, v = (some ⟨a, 0, none⟩, l.length, c) ∧ B ≤ a ∧ a < W.heap.size ∧ l.length ≤ c ∧ c ≤ maxLen ∧ a ≠ g := by
  obtain ⟨VA, vn, vc⟩ := v
  rcases h.2.2.1.form with ⟨_, e⟩ | ⟨a, cap, cur, e, hB, hlt, hh, h1, h2, r⟩
  · subst e
    cases hx
  · injection e with e1 e2 e3
    subst e1 e2 e3
    exact ⟨a, _, rfl, hB, hlt, h1, h2, fun e => ow_quq h.2.2.1 h.1 (by rw [← e]; rfl)⟩
theorem Qo.swap {W : World} {B g a n c i j : Nat} {o : Int} {l : List Nx} {x y : Nx} {M : Nat} (h : Qo W B g o (some ⟨a, 0, none⟩, n, c) l M) (hi : l[i]? = some x) (hj : l[j]? = some y) (hne : i ≠ j) :
    Qo (put5n (put5n W a (i * 5) y) a (j * 5) x) B g o (some ⟨a, 0, none⟩, n, c) (swp l i j x y) M ∧ Efq W (put5n (put5n W a (i * 5) y) a (j * 5) x) B g (some ⟨a, 0, none⟩, n, c) (some ⟨a, 0, none⟩, n, c) := by
  have h1 := h.put (x := y) hi (h.2.2.2 y (List.mem_of_getElem? hj))
  have h2 := h1.put (i := j) (x := x) (y := y) (by rw [List.getElem?_set_ne hne]; exact hj) ((h.2.2.2 x (List.mem_of_getElem? hi)).grownT (only_put5n W a (i * 5) y) (fun g' e => h.2.2.1.otN g' (by rw [← e]; rfl)))
  have hBa : B ≤ a := (h.2.2.1.lt (show (Value.slice (some ⟨a, 0, none⟩) n c).ownBlock = some a from rfl)).1
  refine ⟨h2, below_put5n (below_put5n (Below.refl _ _) hBa _ _) hBa _ _, fun b hb hg hv => ?_, .inl rfl⟩
  have hba : some b ≠ some a := fun e => hv (by rw [e]; rfl)
  exact ((only_put5n (put5n W a (i * 5) y) a (j * 5) x).block b (Nat.lt_of_lt_of_le hb (only_put5n W a (i * 5) y).size) hba).trans ((only_put5n W a (i * 5) y).block b hb hba)
set_option maxHeartbeats 16000000 in
theorem qswap_c {w : World} {B g i j M : Nat} {o : Int} {v : Sl} {l : List Nx} {x y : Nx} (hq : Qo w B g o v l M) (hi : l[i]? = some x) (hj : l[j]? = some y) (hne : i ≠ j) :
    Calls Tryz.prog 42 #[.pointer (some ⟨g, 0, none⟩), .int .i64 (i : Int), .int .i64 (j : Int)] w fun e w' => e = .returned (.tuple #[]) ∧ Qo w' B g o v (swp l i j x y) M ∧ Efq w w' B g v v := by
  obtain ⟨a, c, rfl, hB, hlt, hl1, hl2, hag⟩ := hq.form hi
  have hil := (List.getElem?_eq_some_iff.1 hi).1
  have hjl := (List.getElem?_eq_some_iff.1 hj).1
  have sw := hq.swap hi hj hne
  have FN := hide (sw.1.step (Below.refl _ _).drew)
  have EF := hide (sw.2.step (Below.refl _ _).drew (Nat.le_trans (Nat.le_of_lt (Nat.lt_of_le_of_lt hB hlt)) sw.2.1.size))
  clear sw
  obtain ⟨x0, x1, x2, x3, x4⟩ := Ow.cellsN hq.2.2.1 hi
  obtain ⟨y0, y1, y2, y3, y4⟩ := Ow.cellsN hq.2.2.1 hj
  have q1 : w.cell? ⟨g, 1, none⟩ = some (.slice (some ⟨a, 0, none⟩) l.length c) := hq.1.c
  have fz : ∀ k, w.frozen? ⟨a, k, none⟩ = false := fun k => hq.2.2.1.frozen rfl k
  have f0 := fz (i * 5)
  have f1 := fz (i * 5 + 1)
  have f2 := fz (i * 5 + 2)
  have f3 := fz (i * 5 + 3)
  have f4 := fz (i * 5 + 4)
  have g0 := fz (j * 5)
  have g1 := fz (j * 5 + 1)
  have g2 := fz (j * 5 + 2)
  have g3 := fz (j * 5 + 3)
  have g4 := fz (j * 5 + 4)
  have i1 : (0 : Int) ≤ (i : Int) := by omega
  have i2 : (i : Int) < (l.length : Int) := by omega
  have j1 : (0 : Int) ≤ (j : Int) := by omega
  have j2 : (j : Int) < (l.length : Int) := by omega
  clear hq hi hj fz
  generalize l.length = n at *
  go_enter Tryz.func42, Tryz.ntmps42
  go_wp2_with fail
  go_region
  all_goals
    go_end0
    exact ⟨rfl, FN.out, EF.out⟩
end Go.Proofs.YtpfeacdhplbblaaGreat
