
/-
 Queues: what was counted, in a map; Pop, with what is first.
-/
import Derived.Test.YtepaamclfdadnaaQs1
import Derived.Maps.RangeWalk
import Derived.Maps.OwnOps
import Derived.Maps.Views


namespace Go.Proofs.Ytepaamclfdadnaa
open Go.RowKit Go.Maps Go.Proofs.Ytepaamclfdadnaa.Num
set_option linter.unusedVariables false
set_option linter.unusedSimpArgs false
set_option maxRecDepth 100000
theorem lawI : Keyed Try.prog 3 := int_keyed Try.underlying3
theorem zeroI (w : World) : (zeroValue 3).run Try.prog w = .ok (.int .i64 0) w := by kernel_rfl
def cnt (l : List Nx) (i : Int) : Int := ((l.filter fun x => x.id == i).length : Nat)
theorem cnt_nil (i : Int) : cnt [] i = 0 := rfl
theorem cnt_cons (x : Nx) (l : List Nx) (i : Int) : cnt (x :: l) i = cnt l i + if i = x.id then 1 else 0 := by
 unfold cnt
 rw [List.filter_cons]
 by_cases h : i = x.id
 ·subst h; simp
 ·have h2 : ¬ x.id = i := fun e => h e.symm
  simp [h, h2]
theorem cnt_perm {l l' : List Nx} (h : l.Perm l') (i : Int) : cnt l i = cnt l' i := by
 unfold cnt
 rw [(h.filter _).length_eq]
theorem cnt_le (l : List Nx) (i : Int) : 0 ≤ cnt l i ∧ cnt l i ≤ l.length := by
 unfold cnt
 have := List.length_filter_le (fun x : Nx => x.id == i) l
 omega
def Mi (W : World) (b n : Nat) (f : Int → Int) : Prop := ∃ D : DataW Unit, W.ownsMap Try.prog 3 (plainElem Try.prog 3) b n D ∧ ∀ x, (Lit.int .i64 x).wf = true → D.atKey (.int .i64 x) (.lit (.int .i64 0)) = .lit (.int .i64 (f x))
theorem Mi.at_ {W : World} {b n : Nat} {f : Int → Int} (h : Mi W b n f) : ∃ es c, W.heap[b]? = some (.map es c) := by
 obtain ⟨D, ⟨es, c, hb, -⟩, -⟩ := h
 exact ⟨es, c, hb⟩
theorem Mi.nc {W : World} {b n : Nat} {f : Int → Int} (h : Mi W b n f) : ∀ cs T fz, W.heap[b]? ≠ some (.cells cs T fz) := by
 obtain ⟨es, c, hb⟩ := h.at_
 intro cs T fz e
 rw [hb] at e
 cases e
theorem ranges_nc {W : World} {b r n : Nat} {D : DataW Unit} {left : Lit → Bool} {c : Nat} (h : W.ranges Try.prog 3 (plainElem Try.prog 3) b r n D left c) : ∀ cs T fz, W.heap[r]? ≠ some (.cells cs T fz) := by
 obtain ⟨es, clock, since, seen, c0, _, _, _, _, hr, _⟩ := h
 intro cs T fz e
 rw [hr] at e
 cases e
theorem Mi.lt {W : World} {b n : Nat} {f : Int → Int} (h : Mi W b n f) : b < W.heap.size := by
 obtain ⟨D, h, -⟩ := h
 exact h.lt
theorem Mi.same {W W' : World} {b n : Nat} {f : Int → Int} (h : Mi W b n f) (hb : W'.heap[b]? = W.heap[b]?) : Mi W' b n f := by
 obtain ⟨D, ⟨es, c, h1, h2⟩, h3⟩ := h
 exact ⟨D, ⟨es, c, hb.trans h1, h2⟩, h3⟩
theorem Mi.step {W W' : World} {b n : Nat} {f : Int → Int} (h : Mi W b n f) (hb : Below W.heap.size W W') : Mi W' b n f := h.same (hb.block b h.lt)
theorem Mi.new (w : World) : Mi (w.alloc (.map #[] 0)) w.heap.size 0 (cnt []) := ⟨.map [], World.ownsMap_made w _ _ _, fun x _ => rfl⟩
theorem Mi.congr {W : World} {b n : Nat} {f g : Int → Int} (h : Mi W b n f) (e : ∀ i, f i = g i) : Mi W b n g := by
 obtain ⟨D, h1, h2⟩ := h
 exact ⟨D, h1, fun x hx => by rw [h2 x hx, e x]⟩
theorem atKey_put {D : DataW Unit} {es : List (Lit × DataW Unit)} (hD : D = .map es) {i x c : Int} {f : Int → Int} (h : D.atKey (.int .i64 x) (.lit (.int .i64 0)) = .lit (.int .i64 (f x))) :
  (D.put (.int .i64 i) (.lit (.int .i64 c))).atKey (.int .i64 x) (.lit (.int .i64 0)) = .lit (.int .i64 (if x = i then c else f x)) := by
 by_cases hx : x = i
 ·subst hx
  rw [if_pos rfl]
  exact atKey_put_same ⟨_, hD⟩ (show WideAt.IsKeyLit (Lit.int .i64 x) from trivial) _ _
 ·rw [if_neg hx, atKey_put_other (fun e => hx (by injection e))]
  exact h
theorem Rg.offM {W W' : World} {B' b : Nat} {x : Rx} {L : Nat} (h : Rg W B' x L) (hg : W.grownBy W' (some b)) (hm : ∀ cs T fz, W.heap[b]? ≠ some (.cells cs T fz)) : Rg W' B' x L := by
 have key : ∀ a, a < W.heap.size → (∃ cs fz, W.heap[a]? = some (.cells cs 80 fz)) → W'.heap[a]? = W.heap[a]? := by
  intro a ha ⟨cs, fz, hh⟩
  refine hg.block a ha (fun e => ?_)
  have e := Option.some.inj e
  subst e
  exact hm _ _ _ hh
 have wr : ∀ y : Sl, Wr W B' y → Wr W' B' y := by
  intro y hy
  rcases hy with hy | ⟨b, off, e, hB, hlt, hc⟩
  ·exact .inl hy
  ·have hk := key b (blk_lt hlt) hlt
   exact .inr ⟨b, off, e, hB, by rw [hk]; exact hlt, fun j hj => ⟨by
    obtain ⟨z, hz⟩ := (hc j hj).1
    exact ⟨z, (World.cell?_of_block hk).trans hz⟩, by have := (hc j hj).2; unfold World.frozen? at this ⊢; rw [hk]; exact this⟩⟩
 have cw : ∀ {A : Option Addr} {n c z : Nat}, Wr W B' (A, n, c) → Cw W (.slice A n c) z L → Cw W' (.slice A n c) z L := by
  intro A n c z hw hc
  obtain ⟨D, m, e, ⟨h1, h3⟩, h2⟩ := hc
  injection e with e1 e2 e3
  subst e1 e2 e3
  refine ⟨A, c, rfl, ⟨h1, fun h0 => ?_⟩, h2⟩
  obtain ⟨b, off, e, hb, hcc⟩ := h3 h0
  rcases hw with hw | ⟨b', off', e', -, hlt, -⟩
  ·dsimp only at hw; omega
  ·dsimp only at e'
   rw [e] at e'
   injection e' with e'
   injection e' with e4 e5
   subst e4
   have hk := key b hb hlt
   exact ⟨b, off, e, Nat.lt_of_lt_of_le hb hg.size, fun j hj => (World.cell?_of_block hk).trans (hcc j hj)⟩
 obtain ⟨u, t, e, g1, g2⟩ := h.1
 injection e with e
 have e3 := congrArg Array.toList e
 simp at e3
 obtain ⟨e4, rfl, rfl⟩ := e3
 exact ⟨⟨_, _, by rw [← e4], cw h.2.1 g1, cw h.2.2 g2⟩, wr _ h.2.1, wr _ h.2.2⟩
theorem Qo.offM {W W' : World} {B g b : Nat} {o : Int} {v : Sl} {l : List Nx} {M : Nat} (hq : Qo W B g o v l M) (hg : W.grownBy W' (some b)) (hm : ∀ cs T fz, W.heap[b]? ≠ some (.cells cs T fz)) : Qo W' B g o v l M := by
 have hgb : g ≠ b := by
  intro e
  have h := hq.1
  unfold Quq at h
  rw [e] at h
  exact hm _ _ _ h
 have hvb : (sv v).ownBlock ≠ some b := by
  intro e
  obtain ⟨cs, T, fz, h1, -⟩ := hq.2.2.1.otN b e
  exact hm _ _ _ h1
 exact ⟨(hg.block g hq.1.lt (fun e => hgb (Option.some.inj e))).trans hq.1, hq.2.1, hq.2.2.1.kept hg (.inr hvb), fun x hx => (hq.2.2.2 x hx).offM hg hm⟩
theorem Mi.efq {W W' : World} {B g b n : Nat} {o : Int} {v v' : Sl} {l : List Nx} {M : Nat} {f : Int → Int} (h : Mi W b n f) (hq : Qo W B g o v l M) (he : Efq W W' B g v v') : Mi W' b n f := by
 obtain ⟨es, c, hm1⟩ := h.at_
 refine h.same (he.2.1 b h.lt (fun e => ?_) (fun e => ?_))
 ·have := hq.1
  unfold Quq at this
  rw [← e, hm1] at this
  cases this
 ·obtain ⟨cs, T, fz, h1, -⟩ := hq.2.2.1.otN b e
  rw [hm1] at h1
  cases h1
theorem wpList_lookup_mi {ops : Array Oper} {rest : List Oper} {o : Oper} {a : Act} {Q : Exit → Act → World → Prop} (w : World)
  (hg : o.guard = none) (m x : Operand) (t : TypeId) (hop : o.op = Op.lookup t m x false) (ht : Try.prog.underlying t = some (.map 3 3)) (b n : Nat) (f : Int → Int)
  (hm : a.eval m = .map (some b)) (h : Mi w b n f) (i c : Int) (hx : a.eval x = .int .i64 i) (hw : (Lit.int .i64 i).wf = true) (hc : f i = c)
  (hK : wpList Try.prog ops Q rest (a.put o.dst (.int .i64 c)) w) : wpList Try.prog ops Q (o :: rest) a w := by
 obtain ⟨D, hown, hD⟩ := h
 refine wpList_lookup_own_int w hg m x t hop 3 3 .i64 lawI ht Try.underlying3 (zeroI w) b n D hm hown _ _ hx (keyOf_int_mk Try.underlying3 hw) (fun c' hat _ => ?_)
 rw [hD i hw] at hat
 injection hat with hat
 injection hat with _ hat
 rw [← hat, hc]
 exact hK
theorem wpList_update_mi {ops : Array Oper} {rest : List Oper} {o : Oper} {a : Act} {Q : Exit → Act → World → Prop} (w : World)
  (hg : o.guard = none) (m x v : Operand) (t : TypeId) (hop : o.op = Op.mapUpdate t m x v) (ht : Try.prog.underlying t = some (.map 3 3)) (b n : Nat) (f : Int → Int)
  (hm : a.eval m = .map (some b)) (h : Mi w b n f) (hn : n < 10000000000000) (i c : Int) (hx : a.eval x = .int .i64 i) (hv : a.eval v = .int .i64 c) (hw : (Lit.int .i64 i).wf = true) (hc1 : -10000000000000 ≤ c) (hc2 : c ≤ 10000000000000)
  (hK : ∀ w', Mi w' b (n + 1) (fun y => if y = i then c else f y) → w.grownBy w' (some b) → wpList Try.prog ops Q rest (a.put o.dst undef) w') : wpList Try.prog ops Q (o :: rest) a w := by
 obtain ⟨D, hown, hD⟩ := h
 have hIs : ∃ es, D = .map es := by
  obtain ⟨es, clock, _, _, _, hD⟩ := hown
  exact ⟨_, hD⟩
 obtain ⟨es, hes⟩ := hIs
 have hwc : (Lit.int .i64 c).wf = true := by
  unfold Lit.wf
  simp only [Bool.and_eq_true, decide_eq_true_eq]
  exact ⟨Int.le_trans (by decide) hc1, Int.le_trans hc2 (by decide)⟩
 refine wpList_mapUpdate_own w hg m x v t hop 3 3 lawI ht _ b n D hm hown (by unfold maxLen; omega) _ _ _ hx hv (keyOf_int_mk Try.underlying3 hw) (.lit (.int .i64 c)) [] (plainElem_int Try.underlying3 hwc) (fun w' h1 h2 => ?_)
 exact hK w' ⟨_, h1, fun y hy => atKey_put hes (hD y hy)⟩ h2
def PsRet (w : World) (B g : Nat) (o : Int) (v : Sl) (l : List Nx) (e : Ending) (w' : World) : Prop :=
 ∃ (x : Nx) (t : Bool) (v' : Sl) (l' : List Nx), e = .returned (.tuple #[nx x, .bool t]) ∧ Qo w' B g o v' l' 6 ∧ Hn o l' l'.length ∧ Efq w w' B g v v' ∧ (t = true → (x :: l').Perm l ∧ Rg w' B x.x 6 ∧ ∀ y ∈ l', ¬ ah o y x) ∧ (t = false → l = [] ∧ l' = [])
theorem qpops_c {w : World} {B g : Nat} {o : Int} {v : Sl} {l : List Nx} (hq : Qo w B g o v l 6) (hn : Hn o l l.length) (hL : l.length ≤ 2000000000000) :
  Calls Try.prog 8 #[.pointer (some ⟨g, 0, none⟩)] w (PsRet w B g o v l) := by
 match l, hq, hn, hL with
 | [], hq, hn, hL =>
  refine (qpop0_c hq).mono fun e w' h => ?_
  exact ⟨znx, false, v, [], h.1, hq.step h.2, hn, Efq.of h.2 (Nat.le_trans hq.2.1 (Nat.le_of_lt hq.1.lt)), (fun h => by cases h), fun _ => ⟨rfl, rfl⟩⟩
 | a :: r, hq, hn, hL =>
  refine (qpop_c (n := r.length) hq rfl hL (by omega) (by omega)).mono fun e w' h => ?_
  obtain ⟨x, v', l', h0, rfl, q', p', h', rx', ef⟩ := h
  exact ⟨x, true, v', l', rfl, q', h' hn, ef, fun _ => ⟨p', rx', fun y hy => hn.firstM h0 y (p'.mem_iff.1 (List.mem_cons_of_mem _ hy))⟩, fun h => by cases h⟩
def lenAt (W : World) (g : Nat) : Nat := match W.cell? ⟨g, 1, none⟩ with
 | some (.slice _ n _) => n
 | _ => 0
theorem Qo.lenAt {W : World} {B g : Nat} {o : Int} {v : Sl} {l : List Nx} {M : Nat} (hq : Qo W B g o v l M) : lenAt W g = l.length := by
 obtain ⟨A, n, c⟩ := v
 have h1 : W.cell? ⟨g, 1, none⟩ = some (.slice A n c) := hq.1.c
 unfold Go.Proofs.Ytepaamclfdadnaa.lenAt
 rw [h1]
 exact (lr_nQ hq.rd).1
def boolOf (v : Value) : Nat := match v with
 | .bool true => 1
 | _ => 0
end Go.Proofs.Ytepaamclfdadnaa
