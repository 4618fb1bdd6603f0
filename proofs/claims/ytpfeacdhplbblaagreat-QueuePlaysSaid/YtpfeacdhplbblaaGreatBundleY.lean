/-
  Shared texts, one behind the other: Qr1, Qr2.
-/
import Derived.Test.YtpfeacdhplbblaaGreatBundleX
import Derived.Test.YtpfeacdhplbblaaGreatBundleW
import Derived.Test.YtpfeacdhplbblaaGreatBundleS
import Derived.ArgAppend

namespace Go.Proofs.YtpfeacdhplbblaaGreat
open Go.RowKit Go.Proofs.YtpfeacdhplbblaaGreat.Num
set_option linter.unusedVariables false
set_option linter.unusedSimpArgs false
set_option maxRecDepth 100000
def Ins {α : Type} (lt : α → α → Prop) (r : List α) (x : α) (k : Nat) (L : List α) : Prop := ∃ A C, L = A ++ x :: C ∧ A.length = k ∧ r = A ++ C ∧ ∀ c ∈ C, lt x c
def Ordd {α : Type} (lt : α → α → Prop) (l : List α) : Prop := l.Pairwise fun a b => ¬ lt b a
section
variable {α : Type} {lt : α → α → Prop} {r L : List α} {x a : α} {k : Nat}
theorem Ins.start (lt : α → α → Prop) (r : List α) (x : α) : Ins lt r x r.length (r ++ [x]) := ⟨r, [], rfl, rfl, by simp, fun c hc => by cases hc⟩
theorem Ins.get (h : Ins lt r x k L) : L[k]? = some x := by
  obtain ⟨A, C, rfl, rfl, rfl, _⟩ := h
  simp
theorem Ins.perm (h : Ins lt r x k L) : L.Perm (x :: r) := by
  obtain ⟨A, C, rfl, rfl, rfl, _⟩ := h
  exact List.perm_middle
theorem Ins.swap (h : Ins lt r x (k + 1) L) (ha : L[k]? = some a) (hl : lt x a) : Ins lt r x k ((L.set (k + 1) a).set k x) := by
  obtain ⟨A, C, rfl, hk, rfl, hC⟩ := h
  rcases List.eq_nil_or_concat A with rfl | ⟨A', b, rfl⟩
  · simp at hk
  · rw [List.concat_eq_append] at *
    have hk' : A'.length = k := by simpa using hk
    subst hk'
    have hb : b = a := by
      rw [List.append_assoc, List.getElem?_append_right (Nat.le_refl _)] at ha
      simpa using ha
    subst hb
    refine ⟨A', b :: C, ?_, rfl, by simp, fun c hc => ?_⟩
    · rw [List.append_assoc, List.set_append_right _ _ (by omega), List.set_append_right _ _ (by omega)]
      simp
    · rcases List.mem_cons.1 hc with rfl | hc
      · exact hl
      · exact hC c hc
theorem Ins.done (asy : ∀ a b, lt a b → ¬ lt b a) (neg : ∀ a b c, ¬ lt a b → ¬ lt b c → ¬ lt a c) (h : Ins lt r x k L) (hr : Ordd lt r) (hk : k = 0 ∨ ∃ j a, k = j + 1 ∧ L[j]? = some a ∧ ¬ lt x a) : Ordd lt L := by
  obtain ⟨A, C, rfl, hk2, rfl, hC⟩ := h
  unfold Ordd at *
  rw [List.pairwise_append] at hr ⊢
  obtain ⟨h1, h2, h3⟩ := hr
  refine ⟨h1, List.pairwise_cons.2 ⟨fun c hc => asy _ _ (hC c hc), h2⟩, fun a ha b hb => ?_⟩
  rcases List.mem_cons.1 hb with rfl | hb
  · rcases hk with h0 | ⟨j, d, hj, hd, hn⟩
    · rw [h0] at hk2
      rw [List.length_eq_zero_iff.1 hk2] at ha
      cases ha
    · rcases List.eq_nil_or_concat A with rfl | ⟨A', e, rfl⟩
      · cases ha
      · rw [List.concat_eq_append] at *
        have hj' : A'.length = j := by simp at hk2; omega
        subst hj'
        rw [List.append_assoc, List.getElem?_append_right (Nat.le_refl _)] at hd
        have hd : e = d := by simpa using hd
        subst hd
        rcases List.mem_append.1 ha with ha | ha
        · rw [List.pairwise_append] at h1
          exact neg _ _ _ hn (h1.2.2 a ha e (by simp))
        · obtain rfl : a = e := by simpa using ha
          exact hn
  · exact h3 a ha b hb
end
theorem ak_same {o : Int} {p q : Ky} (h1 : ¬ ak o p q) (h2 : ¬ ak o q p) : p = q := by
  obtain ⟨a, b, c⟩ := p
  obtain ⟨d, e, f⟩ := q
  unfold ak at *
  simp only at h1 h2
  have : a = d ∧ b = e ∧ c = f := by
    by_cases ho : o = 1 <;> refine ⟨?_, ?_, ?_⟩ <;> grind
  obtain ⟨rfl, rfl, rfl⟩ := this
  rfl
def Alk (o : Int) (l r : List Nx) : Prop := Ordd (ah o) r ∧ (l.map ky).Perm (r.map ky)
theorem Alk.nil (o : Int) : Alk o [] [] := ⟨List.Pairwise.nil, List.Perm.refl _⟩
theorem Alk.len {o : Int} {l r : List Nx} (h : Alk o l r) : l.length = r.length := by simpa using h.2.length_eq
theorem Alk.pop {o : Int} {l l' r : List Nx} {x y : Nx} (h : Alk o l (y :: r)) (hp : (x :: l').Perm l) (hf : ∀ z ∈ l', ¬ ah o z x) : ky x = ky y ∧ Alk o l' r := by
  have p1 : ((x :: l').map ky).Perm ((y :: r).map ky) := (hp.map ky).trans h.2
  have h1 := List.pairwise_cons.1 h.1
  have e : ky x = ky y := by
    apply ak_same (o := o)
    · have := p1.mem_iff.1 (show ky x ∈ (x :: l').map ky by simp)
      rcases List.mem_map.1 this with ⟨z, hz, e⟩
      rcases List.mem_cons.1 hz with rfl | hz
      · rw [← e]; exact ak_irrefl _ _
      · rw [← e]; exact h1.1 z hz
    · have := p1.mem_iff.2 (show ky y ∈ (y :: r).map ky by simp)
      rcases List.mem_map.1 this with ⟨z, hz, e⟩
      rcases List.mem_cons.1 hz with rfl | hz
      · rw [← e]; exact ak_irrefl _ _
      · rw [← e]; exact hf z hz
  refine ⟨e, h1.2, ?_⟩
  rw [List.map_cons, List.map_cons, e] at p1
  exact p1.cons_inv
theorem Alk.push {o : Int} {l l' r L : List Nx} {x y : Nx} {k : Nat} (h : Alk o l r) (hp : l'.Perm (x :: l)) (e : ky x = ky y) (hi : Ins (ah o) r y k L) (hk : k = 0 ∨ ∃ j a, k = j + 1 ∧ L[j]? = some a ∧ ¬ ah o y a) : Alk o l' L := by
  refine ⟨hi.done (fun _ _ h => ak_asymm h) (fun _ _ _ h1 h2 => ak_neg h1 h2) h.1 hk, ?_⟩
  refine (hp.map ky).trans ?_
  refine List.Perm.trans ?_ (hi.perm.map ky).symm
  rw [List.map_cons, List.map_cons, e]
  exact h.2.cons _
theorem Alk.least {o : Int} {l r : List Nx} {x y : Nx} (h : Alk o l r) (hx : Lst l l.length x) (hy : Lst r r.length y) : x.x.r = y.x.r := by
  have all : ∀ {l : List Nx} {x : Nx}, Lst l l.length x → ∀ z ∈ l, ¬ z.x.r < x.x.r := fun {l x} h z hz => by
    obtain ⟨j, hj⟩ := List.mem_iff_getElem?.1 hz
    exact h.2 j z (List.getElem?_eq_some_iff.1 hj).1 hj
  have a1 := h.2.mem_iff.1 (List.mem_map.2 ⟨x, hx.1, rfl⟩)
  have a2 := h.2.mem_iff.2 (List.mem_map.2 ⟨y, hy.1, rfl⟩)
  obtain ⟨z, hz, e⟩ := List.mem_map.1 a1
  obtain ⟨u, hu, f⟩ := List.mem_map.1 a2
  have e : z.x.r = x.x.r := congrArg (fun p => p.2.2) e
  have f : u.x.r = y.x.r := congrArg (fun p => p.2.2) f
  have b1 := all hy z hz
  have b2 := all hx u hu
  rw [e] at b1
  rw [f] at b2
  grind
theorem keep_ky (q : Rat) (l : List Nx) : (keep q l).map ky = (l.map ky).filter fun p => decide (p.2.2 < q) := by
  unfold keep
  rw [List.filter_map]
  rfl
theorem gone_ky (q : Rat) (l : List Nx) : gone q l = ((l.map ky).filter fun p => !decide (p.2.2 < q)).map fun p => p.1 := by
  unfold gone
  rw [List.filter_map, List.map_map]
  rfl
theorem Alk.prune {o : Int} {l l' r : List Nx} {q : Rat} (h : Alk o l r) (hp : l'.Perm (keep q l)) : Alk o l' (keep q r) := by
  refine ⟨h.1.filter _, (hp.map ky).trans ?_⟩
  rw [keep_ky, keep_ky]
  exact h.2.filter _
theorem alk_gone {o : Int} {l r : List Nx} {q : Rat} (h : Alk o l r) : (gone q l).Perm (gone q r) := by
  rw [gone_ky, gone_ky]
  exact (h.2.filter _).map _
theorem alk_srt {o : Int} {l r : List Nx} {q : Rat} {d : List Int} (h : Alk o l r) (hd : Ordd (fun a b : Int => a < b) d) (hp : d.Perm (gone q r)) : d = srt (gone q l) := by
  apply List.Perm.eq_of_pairwise (le := fun a b : Int => a ≤ b)
  · intro a b _ _ h1 h2; omega
  · exact hd.imp (fun {a b} h => by omega)
  · have := List.pairwise_mergeSort (le := fun x y : Int => decide (x ≤ y)) (by intro a b c h1 h2; simp at *; omega) (by intro a b; simp; omega) (gone q l)
    exact this.imp (fun {a b} h => by simpa using h)
  · exact hp.trans ((alk_gone h).symm.trans (List.mergeSort_perm _ _).symm)
theorem Ins.ints {r L : List Int} {x : Int} {k : Nat} (hi : Ins (fun a b : Int => a < b) r x k L) (hr : Ordd (fun a b : Int => a < b) r) (hk : k = 0 ∨ ∃ j a, k = j + 1 ∧ L[j]? = some a ∧ ¬ x < a) : Ordd (fun a b : Int => a < b) L :=
  hi.done (fun _ _ h => by omega) (fun _ _ _ h1 h2 => by omega) hr hk
def Ch (S : Nat → Prop) (w w' : World) : Prop := w.heap.size ≤ w'.heap.size ∧ ∀ b, b < w.heap.size → ¬ S b → w'.heap[b]? = w.heap[b]?
theorem Ch.efq {w w' : World} {B g : Nat} {v v' : Sl} (h : Efq w w' B g v v') : Ch (fun b => b = g ∨ (sv v).ownBlock = some b) w w' :=
  ⟨h.1.size, fun b hb hn => h.2.1 b hb (fun e => hn (.inl e)) (fun e => hn (.inr e))⟩
theorem Ch.spu {w w' : World} {B C : Nat} (h : Spu B C w w') : Ch (fun b => B ≤ b ∧ b < C) w w' :=
  ⟨h.1.2.1, fun b hb hn => by
    by_cases h1 : b < B
    · exact h.1.1.block b h1
    · exact h.2 b (by omega) hb⟩
def Nsx (S : Nat → Prop) (x : Rx) : Prop := (0 < x.u.2.1 → ∀ A, x.u.1 = some A → ¬ S A.block) ∧ (0 < x.t.2.1 → ∀ A, x.t.1 = some A → ¬ S A.block)
theorem Cw.ch {W W' : World} {S : Nat → Prop} {A : Option Addr} {n c x L : Nat} (h : Cw W (.slice A n c) x L) (k : Ch S W W') (hn : 0 < n → ∀ B, A = some B → ¬ S B.block) : Cw W' (.slice A n c) x L := by
  obtain ⟨D, m, e, ⟨h1, h3⟩, h2⟩ := h
  injection e with e1 e2 e3
  subst e1 e2 e3
  refine ⟨A, c, rfl, ⟨h1, fun h0 => ?_⟩, h2⟩
  obtain ⟨b, off, e, hb, hc⟩ := h3 h0
  exact ⟨b, off, e, Nat.lt_of_lt_of_le hb k.1, fun j hj => (World.cell?_of_block (k.2 b hb (hn h0 _ e))).trans (hc j hj)⟩
theorem Wr.ch {W W' : World} {S : Nat → Prop} {B : Nat} {x : Sl} (h : Wr W B x) (k : Ch S W W') (hn : 0 < x.2.1 → ∀ B, x.1 = some B → ¬ S B.block) : Wr W' B x := by
  by_cases h0 : x.2.1 = 0
  · exact .inl h0
  · rcases h with h | ⟨b, off, e, hB, hlt, hc⟩
    · exact .inl h
    · have hk := k.2 b (blk_lt hlt) (hn (by omega) _ e)
      refine .inr ⟨b, off, e, hB, by rw [hk]; exact hlt, fun j hj => ?_⟩
      obtain ⟨⟨z, h1⟩, h2⟩ := hc j hj
      exact ⟨⟨z, (World.cell?_of_block hk).trans h1⟩, by unfold World.frozen? at h2 ⊢; rw [hk]; exact h2⟩
theorem Rg.ch {W W' : World} {S : Nat → Prop} {B L : Nat} {x : Rx} (h : Rg W B x L) (k : Ch S W W') (n : Nsx S x) : Rg W' B x L := by
  refine ⟨?_, h.2.1.ch k n.1, h.2.2.ch k n.2⟩
  obtain ⟨u, t, e, h1, h2⟩ := h.1
  injection e with e
  have e3 := congrArg Array.toList e
  simp at e3
  obtain ⟨e4, rfl, rfl⟩ := e3
  exact ⟨_, _, by rw [← e4], h1.ch k n.1, h2.ch k n.2⟩
theorem Rg.nsx {W : World} {S : Nat → Prop} {B L : Nat} {x : Rx} (h : Rg W B x L) (ho : ∀ b, S b → Ot W b) : Nsx S x :=
  ⟨fun h0 A e hs => h.2.1.ne (ho _ hs) h0 A e rfl, fun h0 A e hs => h.2.2.ne (ho _ hs) h0 A e rfl⟩
theorem Wr.lt9 {W : World} {B : Nat} {x : Sl} (h : Wr W B x) (h0 : 0 < x.2.1) : ∀ A, x.1 = some A → A.block < W.heap.size ∧ B ≤ A.block := by
  intro A e
  rcases h with h | ⟨b, off, e', hB, hlt, hc⟩
  · omega
  · rw [e] at e'
    injection e' with e'
    subst e'
    exact ⟨blk_lt hlt, hB⟩
theorem Quq.ch {W W' : World} {S : Nat → Prop} {g : Nat} {o : Int} {v : Sl} (h : Quq W g o v) (k : Ch S W W') (n : ¬ S g) : Quq W' g o v := (k.2 g h.lt n).trans h
theorem Qo.ch {W W' : World} {S : Nat → Prop} {B g : Nat} {o : Int} {v : Sl} {l : List Nx} {M : Nat} (h : Qo W B g o v l M) (k : Ch S W W') (h1 : ¬ S g) (h2 : ∀ b, (sv v).ownBlock = some b → ¬ S b) (h3 : ∀ x ∈ l, Nsx S x.x) : Qo W' B g o v l M :=
  ⟨h.1.ch k h1, h.2.1, h.2.2.1.same (fun b e => k.2 b (h.2.2.1.lt e).2 (h2 b e)), fun x hx => (h.2.2.2 x hx).ch k (h3 x hx)⟩
def Rl9 (W : World) (B : Nat) (v : Sl) (l : List Nx) : Prop :=
  v.2.1 = l.length ∧ v.2.2 ≤ maxLen ∧ v.2.1 ≤ v.2.2 ∧ ((v.1 = none ∧ v.2.2 = 0) ∨ ∃ a i cur, v.1 = some ⟨a, i, none⟩ ∧ B ≤ a ∧ W.heap[a]? = some (.cells cur 38 (0, 0)) ∧ i + v.2.2 * 5 ≤ cur.size ∧ ∀ (j : Nat) (x : Nx), l[j]? = some x → ∀ (q : Nat) (u : Value), (en x)[q]? = some u → cur[i + j * 5 + q]? = some u)
def Rk (W : World) (g : Nat) (o : Int) (v : Sl) : Prop := W.heap[g]? = some (.cells #[.int .i64 o, sv v] 31 (0, 0))
def Ro (W : World) (B g : Nat) (o : Int) (v : Sl) (l : List Nx) : Prop := Rk W g o v ∧ B ≤ g ∧ Rl9 W B v l ∧ ∀ x ∈ l, Rg W B x.x 6
theorem Rk.lt {W : World} {g : Nat} {o : Int} {v : Sl} (h : Rk W g o v) : g < W.heap.size := by unfold Rk at h; exact (Array.getElem?_eq_some_iff.1 h).1
theorem Rk.step {W W' : World} {g : Nat} {o : Int} {v : Sl} (h : Rk W g o v) (hb : Below W.heap.size W W') : Rk W' g o v := (hb.block g h.lt).trans h
theorem Rk.c0 {W : World} {g : Nat} {o : Int} {v : Sl} (h : Rk W g o v) : W.cell? ⟨g, 0, none⟩ = some (.int .i64 o) := cell_of_row W g 0 _ _ _ h
theorem Rk.c {W : World} {g : Nat} {o : Int} {v : Sl} (h : Rk W g o v) : W.cell? ⟨g, 1, none⟩ = some (sv v) := cell_of_row W g 1 _ _ _ h
theorem Rk.fz {W : World} {g : Nat} {o : Int} {v : Sl} (h : Rk W g o v) (j : Nat) : W.frozen? ⟨g, j, none⟩ = false := frozen_of_row W g j _ _ h
theorem Rk.put {W : World} {g : Nat} {o : Int} {v : Sl} (h : Rk W g o v) (u : Sl) : Rk (W.setCell ⟨g, 1, none⟩ (sv u)) g o u := heap_setCell_same W g 1 _ _ (sv u) h
theorem Rk.ot {W : World} {g : Nat} {o : Int} {v : Sl} (h : Rk W g o v) : Ot W g := ⟨_, _, _, h, by decide⟩
theorem Rl9.blk {W : World} {B : Nat} {v : Sl} {l : List Nx} (h : Rl9 W B v l) {b : Nat} (e : (sv v).ownBlock = some b) : B ≤ b ∧ b < W.heap.size ∧ Ot W b ∧ ∃ cur, W.heap[b]? = some (.cells cur 38 (0, 0)) := by
  obtain ⟨VA, vn, vc⟩ := v
  obtain ⟨h1, h2, h3, h4⟩ := h
  rcases h4 with ⟨h, _⟩ | ⟨a, i, cur, e2, hB, hh, _⟩
  · dsimp only at h
    subst h
    cases e
  · dsimp only at e2
    subst e2
    have e3 : a = b := by simpa [Value.ownBlock] using e
    subst e3
    exact ⟨hB, (Array.getElem?_eq_some_iff.1 hh).1, ⟨_, _, _, hh, by decide⟩, _, hh⟩
theorem Rl9.same {W W' : World} {B : Nat} {v : Sl} {l : List Nx} (h : Rl9 W B v l) (hb : ∀ b, (sv v).ownBlock = some b → W'.heap[b]? = W.heap[b]?) : Rl9 W' B v l := by
  obtain ⟨VA, vn, vc⟩ := v
  obtain ⟨h1, h2, h3, h4⟩ := h
  refine ⟨h1, h2, h3, ?_⟩
  rcases h4 with h | ⟨a, i, cur, e, hB, hh, r⟩
  · exact .inl h
  · dsimp only at e
    subst e
    exact .inr ⟨a, i, cur, rfl, hB, (hb a rfl).trans hh, r⟩
theorem Rl9.step {W W' : World} {B : Nat} {v : Sl} {l : List Nx} (h : Rl9 W B v l) (hb : Below W.heap.size W W') : Rl9 W' B v l := h.same (fun b e => hb.block b (h.blk e).2.1)
theorem Ro.step {W W' : World} {B g : Nat} {o : Int} {v : Sl} {l : List Nx} (h : Ro W B g o v l) (hb : Below W.heap.size W W') : Ro W' B g o v l := ⟨h.1.step hb, h.2.1, h.2.2.1.step hb, fun x hx => (h.2.2.2 x hx).step hb⟩
theorem Ro.ch {W W' : World} {S : Nat → Prop} {B g : Nat} {o : Int} {v : Sl} {l : List Nx} (h : Ro W B g o v l) (k : Ch S W W') (h1 : ¬ S g) (h2 : ∀ b, (sv v).ownBlock = some b → ¬ S b) (h3 : ∀ x ∈ l, Nsx S x.x) : Ro W' B g o v l :=
  ⟨(k.2 g h.1.lt h1).trans h.1, h.2.1, h.2.2.1.same (fun b e => k.2 b (h.2.2.1.blk e).2.1 (h2 b e)), fun x hx => (h.2.2.2 x hx).ch k (h3 x hx)⟩
theorem Ro.ne {W : World} {B g : Nat} {o : Int} {v : Sl} {l : List Nx} (h : Ro W B g o v l) : (sv v).ownBlock ≠ some g := by
  intro e
  obtain ⟨-, -, -, cur, hh⟩ := h.2.2.1.blk e
  have := h.1
  unfold Rk at this
  rw [hh] at this
  injection this with this
  injection this with _ e2 _
  exact absurd e2 (by decide)
def Rl5 (W : World) (B a i n c : Nat) (l : List Nx) : Prop :=
  n = l.length ∧ c ≤ maxLen ∧ n ≤ c ∧ B ≤ a ∧ ∃ cur, W.heap[a]? = some (.cells cur 38 (0, 0)) ∧ i + c * 5 ≤ cur.size ∧ ∀ (j : Nat) (x : Nx), l[j]? = some x → ∀ (q : Nat) (u : Value), (en x)[q]? = some u → cur[i + j * 5 + q]? = some u
theorem Rl5.rl {W : World} {B a i n c : Nat} {l : List Nx} (h : Rl5 W B a i n c l) : Rl9 W B (some ⟨a, i, none⟩, n, c) l := by
  obtain ⟨h1, h2, h3, hB, cur, hh, hs, r⟩ := h
  exact ⟨h1, h2, h3, .inr ⟨a, i, cur, rfl, hB, hh, hs, r⟩⟩
theorem Rl9.five {W : World} {B : Nat} {v : Sl} {l : List Nx} (h : Rl9 W B v l) (h0 : 0 < v.2.2) : ∃ a i, v.1 = some ⟨a, i, none⟩ ∧ Rl5 W B a i v.2.1 v.2.2 l := by
  obtain ⟨h1, h2, h3, h4⟩ := h
  rcases h4 with ⟨_, h5⟩ | ⟨a, i, cur, e, hB, hh, hs, r⟩
  · omega
  · exact ⟨a, i, e, h1, h2, h3, hB, cur, hh, hs, r⟩
theorem Rl5.same {W W' : World} {B a i n c : Nat} {l : List Nx} (h : Rl5 W B a i n c l) (hb : W'.heap[a]? = W.heap[a]?) : Rl5 W' B a i n c l := by
  obtain ⟨h1, h2, h3, hB, cur, hh, r⟩ := h
  exact ⟨h1, h2, h3, hB, cur, hb.trans hh, r⟩
theorem Rl5.lt {W : World} {B a i n c : Nat} {l : List Nx} (h : Rl5 W B a i n c l) : a < W.heap.size := by
  obtain ⟨h1, h2, h3, hB, cur, hh, r⟩ := h
  exact (Array.getElem?_eq_some_iff.1 hh).1
theorem Rl5.cells {W : World} {B a i n c : Nat} {l : List Nx} (h : Rl5 W B a i n c l) {j : Nat} {x : Nx} (hx : l[j]? = some x) :
    W.cell? ⟨a, i + j * 5, none⟩ = some (.int .i64 x.id) ∧ W.cell? ⟨a, i + j * 5 + 1, none⟩ = some (.int .i64 x.dp) ∧ W.cell? ⟨a, i + j * 5 + 2, none⟩ = some (.bool x.x.s) ∧ W.cell? ⟨a, i + j * 5 + 3, none⟩ = some (sv x.x.u) ∧ W.cell? ⟨a, i + j * 5 + 4, none⟩ = some (sv x.x.t) := by
  obtain ⟨h1, h2, h3, hB, cur, hh, hs, r⟩ := h
  have c := fun q u hq => (cell_of_row W a (i + j * 5 + q) cur _ _ hh).trans (r j x hx q u hq)
  exact ⟨by simpa using c 0 _ rfl, c 1 _ rfl, c 2 _ rfl, c 3 _ rfl, c 4 _ rfl⟩
theorem put5n_heap {W : World} {a k : Nat} {cur : Array Value} {T : TypeId} (h : W.heap[a]? = some (.cells cur T (0, 0))) (x : Nx) :
    (put5n W a k x).heap[a]? = some (.cells (((((cur.setIfInBounds k (.int .i64 x.id)).setIfInBounds (k + 1) (.int .i64 x.dp)).setIfInBounds (k + 2) (.bool x.x.s)).setIfInBounds (k + 3) (sv x.x.u)).setIfInBounds (k + 4) (sv x.x.t)) T (0, 0)) :=
  heap_setCell_same _ a (k + 4) _ _ _ (heap_setCell_same _ a (k + 3) _ _ _ (heap_setCell_same _ a (k + 2) _ _ _ (heap_setCell_same _ a (k + 1) _ _ _ (heap_setCell_same _ a k _ _ _ h))))
theorem set5_get {cur : Array Value} {k : Nat} (x : Nx) (hk : k + 5 ≤ cur.size) {q : Nat} {u : Value} (hu : (en x)[q]? = some u) :
    (((((cur.setIfInBounds k (.int .i64 x.id)).setIfInBounds (k + 1) (.int .i64 x.dp)).setIfInBounds (k + 2) (.bool x.x.s)).setIfInBounds (k + 3) (sv x.x.u)).setIfInBounds (k + 4) (sv x.x.t))[k + q]? = some u := by
  have hq : q < 5 := by have := (List.getElem?_eq_some_iff.1 hu).1; rwa [en_len] at this
  simp only [Array.getElem?_setIfInBounds, Array.size_setIfInBounds]
  rcases (by omega : q = 0 ∨ q = 1 ∨ q = 2 ∨ q = 3 ∨ q = 4) with rfl | rfl | rfl | rfl | rfl <;> simp [en] at hu <;> subst hu <;> simp <;> omega
theorem set5_other {cur : Array Value} {k : Nat} (x : Nx) {p : Nat} (hp : p < k ∨ k + 5 ≤ p) :
    (((((cur.setIfInBounds k (.int .i64 x.id)).setIfInBounds (k + 1) (.int .i64 x.dp)).setIfInBounds (k + 2) (.bool x.x.s)).setIfInBounds (k + 3) (sv x.x.u)).setIfInBounds (k + 4) (sv x.x.t))[p]? = cur[p]? := by
  simp only [Array.getElem?_setIfInBounds]
  rw [if_neg (by omega), if_neg (by omega), if_neg (by omega), if_neg (by omega), if_neg (by omega)]
theorem Rl5.put {W : World} {B a i n c : Nat} {l L : List Nx} (h : Rl5 W B a i n c l) (j : Nat) (x : Nx) (hj : j < c) (hL : L.length ≤ c) (hl : ∀ k y, L[k]? = some y → (k = j ∧ y = x) ∨ (k ≠ j ∧ l[k]? = some y)) : Rl5 (put5n W a (i + j * 5) x) B a i L.length c L := by
  obtain ⟨h1, h2, h3, hB, cur, hh, hs, r⟩ := h
  refine ⟨rfl, h2, hL, hB, _, put5n_heap hh x, by simpa using hs, fun k y hy q u hq => ?_⟩
  rcases hl k y hy with ⟨rfl, rfl⟩ | ⟨hk, hk2⟩
  · exact set5_get y (by omega) hq
  · have hq5 : q < 5 := by have := (List.getElem?_eq_some_iff.1 hq).1; rwa [en_len] at this
    rw [set5_other x (by omega)]
    exact r k y hk2 q u hq
theorem Rl5.set {W : World} {B a i n c j : Nat} {l : List Nx} (h : Rl5 W B a i n c l) (x : Nx) (hj : j < n) : Rl5 (put5n W a (i + j * 5) x) B a i n c (l.set j x) := by
  have hn := h.1
  have hc := h.2.2.1
  have := h.put (L := l.set j x) j x (by omega) (by rw [List.length_set]; omega) (fun k y hy => by
    by_cases e : k = j
    · subst e
      rw [List.getElem?_set_self (by omega)] at hy
      exact .inl ⟨rfl, (Option.some.inj hy).symm⟩
    · rw [List.getElem?_set_ne (Ne.symm e)] at hy
      exact .inr ⟨e, hy⟩)
  rwa [List.length_set, ← hn] at this
theorem Rl5.more {W : World} {B a i n c : Nat} {l : List Nx} (h : Rl5 W B a i n c l) (x : Nx) (hj : n < c) : Rl5 (put5n W a (i + n * 5) x) B a i (n + 1) c (l ++ [x]) := by
  have hn := h.1
  have := h.put (L := l ++ [x]) n x hj (by simp; omega) (fun k y hy => by
    have hk := (List.getElem?_eq_some_iff.1 hy).1
    simp at hk
    by_cases e : k = n
    · subst e
      rw [hn, List.getElem?_append_right (Nat.le_refl _)] at hy
      simp at hy
      exact .inl ⟨rfl, hy.symm⟩
    · rw [List.getElem?_append_left (by omega)] at hy
      exact .inr ⟨e, hy⟩)
  rwa [List.length_append, List.length_singleton, ← hn] at this
theorem Rl9.tail {W : World} {B c : Nat} {a i n : Nat} {x : Nx} {l : List Nx} (h : Rl5 W B a i n c (x :: l)) (D : Option Addr) (hD : D = if c = 1 then some ⟨a, i, none⟩ else some ⟨a, i + 5, none⟩) : Rl9 W B (D, n - 1, c - 1) l := by
  obtain ⟨h1, h2, h3, hB, cur, hh, hs, r⟩ := h
  simp only [List.length_cons] at h1
  refine ⟨by dsimp only; omega, by dsimp only; omega, by dsimp only; omega, .inr ?_⟩
  by_cases hc : c = 1
  · rw [if_pos hc] at hD
    refine ⟨a, i, cur, hD, hB, hh, by dsimp only; omega, fun j y hy => ?_⟩
    have : l.length = 0 := by omega
    have := (List.getElem?_eq_some_iff.1 hy).1
    omega
  · rw [if_neg hc] at hD
    refine ⟨a, i + 5, cur, hD, hB, hh, by dsimp only; omega, fun j y hy q u hq => ?_⟩
    have := r (j + 1) y (by simpa using hy) q u hq
    rw [show i + 5 + j * 5 + q = i + (j + 1) * 5 + q by omega]
    exact this
theorem Rl9.of_ow {W : World} {B : Nat} {v : Sl} {l : List Nx} (h : Ow 38 en 5 W B (sv v) l) : Rl9 W B v l := by
  obtain ⟨VA, vn, vc⟩ := v
  rcases h.form with ⟨e, rfl⟩ | ⟨g, cap, cur, e, hB, hlt, hh, h1, h2, h3, h4⟩
  · injection e with e1 e2 e3
    subst e1 e2 e3
    exact ⟨rfl, by simp [maxLen], Nat.le_refl _, .inl ⟨rfl, rfl⟩⟩
  · injection e with e1 e2 e3
    subst e1 e2 e3
    refine ⟨rfl, h2, h1, .inr ⟨g, 0, cur, rfl, hB, hh, (by show 0 + vc * 5 ≤ cur.size; have h9 : cur.size = vc * 5 := h3; omega), fun j x hj q u hq => ?_⟩⟩
    have hjl := (List.getElem?_eq_some_iff.1 hj).1
    have hq5 : q < 5 := by have := (List.getElem?_eq_some_iff.1 hq).1; rwa [en_len] at this
    have e := flat_get en_len l j x hj q hq5
    rw [hq, ← h4, List.getElem?_take, if_pos (by omega), Array.getElem?_toList] at e
    rw [Nat.zero_add]
    exact e
theorem Rl5.flat {W : World} {B a i n c : Nat} {l : List Nx} (h : Rl5 W B a i n c l) : ∀ (j : Nat) (u : Value), (flat en l)[j]? = some u → W.cell? ((⟨a, i, none⟩ : Addr).add j) = some u := by
  intro j u hu
  obtain ⟨h1, h2, h3, hB, cur, hh, hs, r⟩ := h
  have hj := (List.getElem?_eq_some_iff.1 hu).1
  rw [flat_len en_len] at hj
  have e := flat_get en_len l (j / 5) (l[j / 5]'(by omega)) (List.getElem?_eq_getElem (by omega)) (j % 5) (by omega)
  rw [show j / 5 * 5 + j % 5 = j by omega, hu] at e
  rw [Addr.add_lit, cell_of_row W a (i + j) cur _ _ hh]
  have := r (j / 5) _ (List.getElem?_eq_getElem (by omega)) (j % 5) u e.symm
  rwa [show i + j / 5 * 5 + j % 5 = i + j by omega] at this
theorem run_push9 {W : World} {B : Nat} {v : Sl} {l : List Nx} (h : Rl9 W B v l) (x : Nx) (cs : Array Value) (hcs : cs.toList = en x) (hlen : l.length + 1 ≤ 1800000000000) (hB : B ≤ W.heap.size) (ty : TypeId) :
    ∃ (v' : Sl) (W' : World), (Builtin.append_ #[29, 29] ty #[sv v, .slice (some ⟨W.heap.size, 0, none⟩) 1 1]).run Tryz.prog (W.alloc (.cells cs 38)) = .ok (sv v') W' ∧ Rl9 W' B v' (l ++ [x]) ∧ W.grownBy W' (sv v).ownBlock ∧ ((sv v').ownBlock = (sv v).ownBlock ∨ ∀ b, (sv v').ownBlock = some b → W.heap.size ≤ b) := by
  obtain ⟨i0, hi, hz0, hz1, hz2⟩ := info_parts info_nd
  obtain ⟨VA, vn, vc⟩ := v
  have hn : vn = l.length := h.1
  have h72 : (l.length + 1) * 72 ≤ 140737488355328 := by omega
  have hml : l.length + 1 ≤ maxLen := by unfold maxLen; omega
  have hst := h.step (bal1 W (.cells cs 38))
  have news : ∀ (j : Nat) (u : Value), (en x)[j]? = some u → (W.alloc (.cells cs 38)).cell? ((⟨W.heap.size, 0, none⟩ : Addr).add j) = some u := by
    intro j u hj
    rw [Addr.add_lit, Nat.zero_add, cell_of_row _ W.heap.size j cs 38 (0, 0) (heap_alloc_new _ _), ← Array.getElem?_toList, hcs]
    exact hj
  have fin : ∀ (V' : Value) (W' : World), W'.ownsRow (W.alloc (.cells cs 38)).heap.size 38 5 V' (l.length + 1) (flat en l ++ en x) → (W.alloc (.cells cs 38)).grownBy W' none → ∃ v' : Sl, V' = sv v' ∧ Rl9 W' B v' (l ++ [x]) ∧ W.grownBy W' (sv (VA, vn, vc)).ownBlock ∧ ((sv v').ownBlock = (sv (VA, vn, vc)).ownBlock ∨ ∀ b, (sv v').ownBlock = some b → W.heap.size ≤ b) := by
    intro V' W' ho hg
    have ow : Ow 38 en 5 W' (W.alloc (.cells cs 38)).heap.size V' (l ++ [x]) := by
      unfold Ow
      rw [List.length_append, flat_append, flat_one]
      exact ho
    obtain ⟨A', n', c', rfl⟩ := rv_sl (ow.rl en_len)
    refine ⟨(A', n', c'), rfl, Rl9.of_ow (ow.mono (by simp; omega)), ?_, .inr (fun b e => ?_)⟩
    · have g0 : W.grownBy W' none := only_trans (World.grownBy_alloc W _ none) hg
      exact ⟨g0.os, g0.tape, g0.output, g0.size, fun b hb _ => g0.block b hb (by simp)⟩
    · have := (ow.lt e).1
      simp at this
      omega
  rcases Nat.eq_zero_or_pos vc with h0 | h0
  · subst h0
    have hl0 : l = [] := List.eq_nil_of_length_eq_zero (by have : vn ≤ 0 := h.2.2.1; omega)
    subst hl0
    obtain rfl : vn = 0 := hn
    cases VA with
    | none =>
      obtain ⟨V', W', hr, r1, r2, _⟩ := run_append_own (P := Tryz.prog) (W.alloc (.cells cs 38)) (W.alloc (.cells cs 38)).heap.size 29 ty 38 i0 _ 5 72 Tryz.underlying29 hi hz0 hz1 hz2 rfl (by omega) (.slice none 0 0) 0 [] (World.ownsRow_nil _ _ _ _) ⟨W.heap.size, 0, none⟩ 1 1 (en x) (by rw [en_len]) news (en_one x) (by unfold maxLen; omega) (by omega) (Nat.le_refl _)
      obtain ⟨v', e, r⟩ := fin V' W' r1 r2
      exact ⟨v', W', by rw [hr, e], r⟩
    | some a' =>
      obtain ⟨V', W', hr, r1, r2⟩ := run_append_arg_grows (P := Tryz.prog) (W.alloc (.cells cs 38)) 29 ty 38 i0 _ 5 72 Tryz.underlying29 hi hz0 hz1 hz2 rfl (by omega) a' 0 0 [] (by simp) (by intro _ _ h'; simp at h') ⟨W.heap.size, 0, none⟩ 1 1 (en x) (by rw [en_len]) news (by omega) (by unfold maxLen; omega) (by omega)
      obtain ⟨v', e, r⟩ := fin V' W' r1 r2
      exact ⟨v', W', by rw [hr, e], r⟩
  · obtain ⟨a, i, e, h5⟩ := hst.five h0
    dsimp only at e
    subst e
    have hlt := h5.lt
    by_cases hc : vn + 1 ≤ vc
    · obtain ⟨_, _, _, hBa, cur, hh, hs, r⟩ := id h5
      have hrun := run_append_room_cells (P := Tryz.prog) (W.alloc (.cells cs 38)) 29 ty 38 i0 Tryz.underlying29 hi a i vn vc ⟨W.heap.size, 0, none⟩ 1 1 (en x) (by rw [hz1, en_len]) news (en_one x) hc
        (fun j hj => by rw [hz1, cell_of_row _ a _ cur _ _ hh]; rw [en_len] at hj; dsimp only at hs; simp; omega) (fun j hj => frozen_of_row _ a _ cur _ hh)
      rw [hz1] at hrun
      have m5 := h5.more x (by dsimp only; omega)
      dsimp only at m5
      have e5 : (W.alloc (.cells cs 38)).setCells a (i + vn * 5) (en x) = put5n (W.alloc (.cells cs 38)) a (i + vn * 5) x := rfl
      rw [e5] at hrun
      refine ⟨(some ⟨a, i, none⟩, vn + 1, vc), _, hrun, m5.rl, ?_, .inl rfl⟩
      exact only_trans (World.grownBy_alloc W _ _) (only_put5n _ a _ x)
    · obtain ⟨V', W', hr, r1, r2⟩ := run_append_arg_grows (P := Tryz.prog) (W.alloc (.cells cs 38)) 29 ty 38 i0 _ 5 72 Tryz.underlying29 hi hz0 hz1 hz2 rfl (by omega) ⟨a, i, none⟩ vn vc (flat en l) (by rw [flat_len en_len, hn]) h5.flat ⟨W.heap.size, 0, none⟩ 1 1 (en x) (by rw [en_len]) news (by omega) (by rw [hn]; exact hml) (by rw [hn]; exact h72)
      obtain ⟨v', e, r⟩ := fin V' W' (by rw [hn] at r1; exact r1) r2
      exact ⟨v', W', by rw [hr, e], r⟩
def Dj (v u : Sl) : Prop := ∀ b, (sv v).ownBlock = some b → (sv u).ownBlock ≠ some b
def Sm (W : World) (B g m : Nat) (o : Int) (v u : Sl) (l r : List Nx) : Prop := Qo W B g o v l 6 ∧ Ro W B m o u r ∧ Dj v u
theorem Sm.step {W W' : World} {B g m : Nat} {o : Int} {v u : Sl} {l r : List Nx} (h : Sm W B g m o v u l r) (hb : Below W.heap.size W W') : Sm W' B g m o v u l r := ⟨h.1.step hb, h.2.1.step hb, h.2.2⟩
theorem Sm.apart {W : World} {B g m : Nat} {o : Int} {v u : Sl} {l r : List Nx} (h : Sm W B g m o v u l r) : g ≠ m ∧ (sv v).ownBlock ≠ some m ∧ (sv u).ownBlock ≠ some g := by
  have hq := h.1.1
  have hr := h.2.1.1
  unfold Quq at hq
  unfold Rk at hr
  refine ⟨fun e => ?_, fun e => ?_, fun e => ?_⟩
  · rw [← e, hq] at hr
    injection hr with hr
    injection hr with _ e2 _
    exact absurd e2 (by decide)
  · rcases h.1.2.2.1.form with ⟨hv, _⟩ | ⟨g', cap, cur, hv, hB, hlt, hh, r⟩
    · rw [hv] at e; cases e
    · rw [hv] at e
      have e3 : g' = m := by simpa [Value.ownBlock] using e
      rw [e3, hr] at hh
      injection hh with hh
      injection hh with _ e2 _
      exact absurd e2 (by decide)
  · obtain ⟨-, -, -, cur, hh⟩ := h.2.1.2.2.1.blk e
    rw [hq] at hh
    injection hh with hh
    injection hh with _ e2 _
    exact absurd e2 (by decide)
theorem Sm.q {W W' : World} {B g m : Nat} {o : Int} {v v' u : Sl} {l l' r : List Nx} (h : Sm W B g m o v u l r) (hq : Qo W' B g o v' l' 6) (he : Efq W W' B g v v') : Sm W' B g m o v' u l' r := by
  obtain ⟨a1, a2, a3⟩ := h.apart
  refine ⟨hq, h.2.1.ch (Ch.efq he) (fun hs => ?_) (fun b e hs => ?_) (fun x hx => (h.2.1.2.2.2 x hx).nsx (fun b hs => ?_)), fun b e => ?_⟩
  · rcases hs with hs | hs
    · exact a1 hs.symm
    · exact a2 hs
  · rcases hs with hs | hs
    · exact a3 (hs ▸ e)
    · exact h.2.2 b hs e
  · rcases hs with hs | hs
    · exact hs ▸ h.1.1.ot
    · exact h.1.2.2.1.otN b hs
  · rcases he.2.2 with h3 | h3
    · exact h.2.2 b (h3 ▸ e)
    · intro e2
      have h4 := (h.2.1.2.2.1.blk e2).2.1
      have := h3 b e
      omega
theorem Sm.r {W W' : World} {B g m : Nat} {o : Int} {v u u' : Sl} {l r r' : List Nx} (h : Sm W B g m o v u l r) (hq : Ro W' B m o u' r') (he : Efq W W' B m u u') : Sm W' B g m o v u' l r' := by
  obtain ⟨a1, a2, a3⟩ := h.apart
  refine ⟨h.1.ch (Ch.efq he) (fun hs => ?_) (fun b e hs => ?_) (fun x hx => (h.1.2.2.2 x hx).nsx (fun b hs => ?_)), hq, fun b e => ?_⟩
  · rcases hs with hs | hs
    · exact a1 hs
    · exact a3 hs
  · rcases hs with hs | hs
    · exact a2 (hs ▸ e)
    · exact h.2.2 b e hs
  · rcases hs with hs | hs
    · exact hs ▸ h.2.1.1.ot
    · exact (h.2.1.2.2.1.blk hs).2.2.1
  · rcases he.2.2 with h3 | h3
    · rw [h3]; exact h.2.2 b e
    · intro e2
      have h4 := (h.1.2.2.1.lt e).2
      have := h3 b e2
      omega
theorem Sm.spu {W W' : World} {B g m C D : Nat} {o : Int} {v u : Sl} {l r : List Nx} (h : Sm W B g m o v u l r) (hs : Spu C D W W') (hg : g < C) (hm : m < C) (hv : ∀ b, (sv v).ownBlock = some b → b < C ∨ D ≤ b) (hu : ∀ b, (sv u).ownBlock = some b → b < C ∨ D ≤ b) (h1 : ∀ x ∈ l, Nsx (fun b => C ≤ b ∧ b < D) x.x) (h2 : ∀ x ∈ r, Nsx (fun b => C ≤ b ∧ b < D) x.x) : Sm W' B g m o v u l r :=
  ⟨h.1.ch (Ch.spu hs) (fun e => by omega) (fun b e hb => by have := hv b e; omega) h1, h.2.1.ch (Ch.spu hs) (fun e => by omega) (fun b e hb => by have := hu b e; omega) h2, h.2.2⟩
end Go.Proofs.YtpfeacdhplbblaaGreat
