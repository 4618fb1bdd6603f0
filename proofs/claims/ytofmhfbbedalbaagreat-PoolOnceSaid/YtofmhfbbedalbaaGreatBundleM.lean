/-
  Shared texts, one behind the other: Kmath, Ktv, Kcon1, Kcon2, Kcon3, Kcon4, Kcon5.
-/
import Derived.Test.YtofmhfbbedalbaaGreatTm
import Derived.Test.YtofmhfbbedalbaaGreatBundleH
import Derived.Test.YtofmhfbbedalbaaGreatVdot
import Derived.Deep.RegionHeld3

namespace Go.Proofs.YtofmhfbbedalbaaGreat.Num
set_option linter.unusedVariables false
def Kpt (s : Int) (a r : Rat) : Prop := (s = 1 ∧ a ≤ r) ∨ (s = 2 ∧ r ≤ a) ∨ (s = 3 ∧ a = r)
def IsS (s : Int) : Prop := s = 1 ∨ s = 2 ∨ s = 3
def Bare (ts : List Tm) : Prop := ∀ c, 0 ≤ c → gsum ts c = 0
def Alk (ts us : List Tm) : Prop := ∀ c, 0 ≤ c → gsum ts c = gsum us c
def Fls (s : Int) (ts : List Tm) (r : Rat) : Prop := IsS s ∧ Bare ts ∧ ¬ Kpt s 0 r
def Domi (s : Int) (ts : List Tm) (r : Rat) (s' : Int) (ts' : List Tm) (r' : Rat) : Prop :=
 IsS s ∧ IsS s' ∧ (Fls s ts r ∨ (Bare ts' ∧ Kpt s' 0 r') ∨ ((s = s' ∨ s = 3) ∧ Kpt s' r r' ∧ Alk ts ts'))
theorem Alk.refl (ts : List Tm) : Alk ts ts := fun _ _ => rfl
theorem Alk.symm {ts us : List Tm} (h : Alk ts us) : Alk us ts := fun c hc => (h c hc).symm
theorem Alk.trans {ts us vs : List Tm} (h : Alk ts us) (k : Alk us vs) : Alk ts vs := fun c hc => (h c hc).trans (k c hc)
theorem bare_fm {ts us : List Tm} (h : Fm us) (k : Alk us ts) : Bare ts ↔ us = [] := by
 constructor
 ·intro hb
  exact h.unique Fm.nil (fun c hc => (k c hc).trans (hb c hc))
 ·rintro rfl c hc
  exact (k c hc).symm
theorem alk_fm {ts us ts' us' : List Tm} (h : Fm us) (k : Alk us ts) (h' : Fm us') (k' : Alk us' ts') : Alk ts ts' ↔ us = us' := by
 constructor
 ·intro e
  exact h.unique h' (fun c hc => (k c hc).trans ((e c hc).trans (k' c hc).symm))
 ·rintro rfl
  exact k.symm.trans k'
theorem gsum_mem {ts : List Tm} (h : Fm ts) {t : Tm} (ht : t ∈ ts) : gsum ts t.1 = t.2 := by
 induction ts with
 | nil => cases ht
 | cons u us ih =>
  have hp := List.pairwise_cons.1 h.1
  rcases List.mem_cons.1 ht with rfl | ht
  ·rw [h.head _ (Int.le_refl _), if_pos rfl]
  ·have := hp.1 t ht
   rw [gsum, if_neg (by omega), ih h.tail ht, Rat.zero_add]
theorem gsum_there {ts : List Tm} {c : Int} (h : gsum ts c ≠ 0) : ∃ t ∈ ts, t.1 = c :=
 Classical.byContradiction fun k => h (gsum_none fun t ht e => k ⟨t, ht, e⟩)
theorem mul_le {q a b : Rat} (h : a ≤ b) (hq : 0 < q) : q * a ≤ q * b := Rat.mul_le_mul_of_nonneg_left h (Rat.le_of_lt hq)
theorem Kpt.sense {s : Int} {a r : Rat} (h : Kpt s a r) : IsS s := by
 rcases h with ⟨h, _⟩ | ⟨h, _⟩ | ⟨h, _⟩
 ·exact .inl h
 ·exact .inr (.inl h)
 ·exact .inr (.inr h)
end Go.Proofs.YtofmhfbbedalbaaGreat.Num


namespace Go.Proofs.YtofmhfbbedalbaaGreat
open Go.RowKit Go.Proofs.YtofmhfbbedalbaaGreat.Num
set_option linter.unusedVariables false
set_option linter.unusedSimpArgs false
set_option maxRecDepth 100000
structure Kx where
 s : Int
 v : Sl
 d : List Tx
 x : Rx
instance : Inhabited Kx := ⟨⟨0, (none, 0, 0), [], default⟩⟩
def ek (k : Kx) : List Value := [.int .i64 k.s, sv k.v, .bool k.x.s, sv k.x.u, sv k.x.t]
theorem ek_len (k : Kx) : (ek k).length = 5 := rfl
theorem ek_one (k : Kx) : ∀ u ∈ ek k, u.oneCell' = true := by
 intro u hu
 simp [ek] at hu
 rcases hu with rfl | rfl | rfl | rfl | rfl <;> rfl
abbrev kx (k : Kx) : Value := .agg #[.int .i64 k.s, sv k.v, .bool k.x.s, sv k.x.u, sv k.x.t]
abbrev kbox (k : Kx) : Obj := .cells #[.int .i64 k.s, sv k.v, .bool k.x.s, sv k.x.u, sv k.x.t] 29
def Kq (W : World) (g : Nat) (k : Kx) : Prop := W.heap[g]? = some (kbox k)
theorem Kq.new (w : World) (k : Kx) : Kq (w.alloc (kbox k)) w.heap.size k := heap_alloc_new w _
theorem Kq.lt {W : World} {g : Nat} {k : Kx} (h : Kq W g k) : g < W.heap.size := by unfold Kq at h; exact (Array.getElem?_eq_some_iff.1 h).1
theorem Kq.step {W W' : World} {g : Nat} {k : Kx} (h : Kq W g k) (hb : Below W.heap.size W W') : Kq W' g k := (hb.block g h.lt).trans h
theorem Kq.all {W : World} {g : Nat} {k : Kx} (h : Kq W g k) : W.cell? ⟨g, 0, none⟩ = some (.int .i64 k.s) ∧ W.cell? ⟨g, 1, none⟩ = some (sv k.v) ∧ W.cell? ⟨g, 2, none⟩ = some (.bool k.x.s) ∧ W.cell? ⟨g, 3, none⟩ = some (sv k.x.u) ∧ W.cell? ⟨g, 4, none⟩ = some (sv k.x.t) :=
 ⟨cell_of_row W g 0 _ _ _ h, cell_of_row W g 1 _ _ _ h, cell_of_row W g 2 _ _ _ h, cell_of_row W g 3 _ _ _ h, cell_of_row W g 4 _ _ _ h⟩
theorem Kq.fz {W : World} {g : Nat} {k : Kx} (h : Kq W g k) (j : Nat) : W.frozen? ⟨g, j, none⟩ = false := frozen_of_row W g j _ _ h
def Kv (W : World) (k : Kx) (L : Nat) : Prop := Tv W (sv k.v) k.d L ∧ Ra W (rx k.x) k.x.r L
theorem Kv.step {W W' : World} {k : Kx} {L : Nat} (h : Kv W k L) (hb : Below W.heap.size W W') : Kv W' k L := ⟨h.1.step hb, h.2.step hb⟩
def Kc (W : World) (k : Kx) (L : Nat) : Prop := Tc W (sv k.v) k.d L ∧ Rc W (rx k.x) k.x.r L ∧ Fm (tms k.d)
theorem Kc.step {W W' : World} {k : Kx} {L : Nat} (h : Kc W k L) (hb : Below W.heap.size W W') : Kc W' k L := ⟨h.1.step hb, h.2.1.step hb, h.2.2⟩
theorem Kc.kv {W : World} {k : Kx} {L : Nat} (h : Kc W k L) : Kv W k L := ⟨h.1.tv, h.2.1.ra⟩
def Kg (W : World) (B : Nat) (k : Kx) (L : Nat) : Prop := Tg W B (sv k.v) k.d L ∧ Rg W B k.x L ∧ Fm (tms k.d)
theorem Kg.step {W W' : World} {B : Nat} {k : Kx} {L : Nat} (h : Kg W B k L) (hb : Below W.heap.size W W') : Kg W' B k L := ⟨h.1.step hb, h.2.1.step hb, h.2.2⟩
theorem Kg.mono {W : World} {B B' : Nat} {k : Kx} {L : Nat} (h : Kg W B k L) (hB : B' ≤ B) : Kg W B' k L := ⟨h.1.mono hB, h.2.1.mono hB, h.2.2⟩
theorem Kg.kc {W : World} {B : Nat} {k : Kx} {L : Nat} (h : Kg W B k L) : Kc W k L := ⟨h.1.tc, h.2.1.1, h.2.2⟩
def Kl (W : World) (v : Value) (l : List Kx) (L : Nat) : Prop := Lr ek 5 W v l ∧ ∀ k ∈ l, Kv W k L
def BRet (P : Prop) (e : Ending) : Prop := ∃ b : Bool, e = .returned (.bool b) ∧ (b = true ↔ P)
theorem cmp_ge0 {a b : Rat} : 0 ≤ cmpR a b ↔ b ≤ a := by
 have h := cmpR_turn a b
 have h2 := cmpR_le (a := b) (b := a)
 rw [← h2]
 omega
theorem cmp_eq0 {a b : Rat} : cmpR a b = 0 ↔ a = b := by
 unfold cmpR
 split
 ·constructor
  ·intro h; omega
  ·intro h; subst h; exfalso; grind
 ·split
  ·constructor
   ·intro h; omega
   ·intro h; subst h; exfalso; grind
  ·constructor
   ·intro _; grind
   ·intro _; rfl
abbrev kblk : Obj := .cells #[.int .i64 0, .slice none 0 0, .bool false, .slice none 0 0, .slice none 0 0] 29
def Kz (W : World) (g : Nat) : Prop := W.heap[g]? = some kblk
theorem Kz.new (w : World) : Kz (w.alloc kblk) w.heap.size := heap_alloc_new w _
theorem Kz.lt {W : World} {g : Nat} (h : Kz W g) : g < W.heap.size := by unfold Kz at h; exact (Array.getElem?_eq_some_iff.1 h).1
theorem Kz.step {W W' : World} {g : Nat} (h : Kz W g) (hb : Below W.heap.size W W') : Kz W' g := (hb.block g h.lt).trans h
theorem Kz.all {W : World} {g : Nat} (h : Kz W g) : W.cell? ⟨g, 0, none⟩ = some (.int .i64 0) ∧ W.cell? ⟨g, 1, none⟩ = some (.slice none 0 0) ∧ W.cell? ⟨g, 2, none⟩ = some (.bool false) ∧ W.cell? ⟨g, 3, none⟩ = some (.slice none 0 0) ∧ W.cell? ⟨g, 4, none⟩ = some (.slice none 0 0) :=
 ⟨cell_of_row W g 0 _ _ _ h, cell_of_row W g 1 _ _ _ h, cell_of_row W g 2 _ _ _ h, cell_of_row W g 3 _ _ _ h, cell_of_row W g 4 _ _ _ h⟩
theorem Kz.fz {W : World} {g : Nat} (h : Kz W g) (j : Nat) : W.frozen? ⟨g, j, none⟩ = false := frozen_of_row W g j _ _ h
theorem Kz.other {W : World} {g h : Nat} (z : Kz W h) (hne : h ≠ g) (j : Nat) (a : Value) : Kz (W.setCell ⟨g, j, none⟩ a) h := (Below.heap_setCell _ _ a h hne).trans z
theorem Kq.other {W : World} {g h : Nat} {k : Kx} (z : Kq W h k) (hne : h ≠ g) (j : Nat) (a : Value) : Kq (W.setCell ⟨g, j, none⟩ a) h k := (Below.heap_setCell _ _ a h hne).trans z
def Kb (W : World) (g : Nat) : Prop := ∃ cs, W.heap[g]? = some (.cells cs 29 (0, 0))
theorem Kz.kb {W : World} {g : Nat} (h : Kz W g) : Kb W g := ⟨_, h⟩
theorem Kq.kb {W : World} {g : Nat} {k : Kx} (h : Kq W g k) : Kb W g := ⟨_, h⟩
theorem Kb.ot {W : World} {g : Nat} (h : Kb W g) : Ot W g := by
 obtain ⟨cs, h⟩ := h
 exact ⟨cs, _, _, h, by decide⟩
theorem Kb.ne {W : World} {g B : Nat} {v : Value} {d : List Tx} (h : Kb W g) (ho : Ow 59 et 4 W B v d) : v.ownBlock = none ∨ v.ownBlock ≠ some g := by
 obtain ⟨cs, h⟩ := h
 rcases ho.form with ⟨rfl, _⟩ | ⟨g', cap, cur, rfl, hB, hlt, hh, r⟩
 ·exact .inl rfl
 ·refine .inr (fun e => ?_)
  have e : g' = g := by simpa [Value.ownBlock] using e
  subst e
  rw [h] at hh
  injection hh with hh
  injection hh with _ e2 _
  exact absurd e2 (by decide)
theorem Tg.grownK {W W' : World} {B L g : Nat} {v : Value} {d : List Tx} (h : Tg W B v d L) (hg : W.grownBy W' (some g)) (hk : Kb W g) : Tg W' B v d L :=
 ⟨h.1.kept hg (hk.ne h.1), fun x hx => (h.2 x hx).grownT hg (fun g' e => by cases e; exact hk.ot)⟩
theorem Rg.grownK {W W' : World} {B L g : Nat} {x : Rx} (h : Rg W B x L) (hg : W.grownBy W' (some g)) (hk : Kb W g) : Rg W' B x L := h.grownT hg (fun g' e => by cases e; exact hk.ot)
theorem Kg.grownK {W W' : World} {B L g : Nat} {k : Kx} (h : Kg W B k L) (hg : W.grownBy W' (some g)) (hk : Kb W g) : Kg W' B k L := ⟨h.1.grownK hg hk, h.2.1.grownK hg hk, h.2.2⟩
theorem only_put5 (W : World) (g : Nat) (a b c d e : Value) : W.grownBy (((((W.setCell ⟨g, 0, none⟩ a).setCell ⟨g, 1, none⟩ b).setCell ⟨g, 2, none⟩ c).setCell ⟨g, 3, none⟩ d).setCell ⟨g, 4, none⟩ e) (some g) :=
 only_set (p := ⟨g, 4, none⟩) (only_set (p := ⟨g, 3, none⟩) (only_put3 W g a b c) rfl d) rfl e
theorem below_put5 {B : Nat} {w W : World} {g : Nat} (h : Below B w W) (hg : B ≤ g) (a b c d e : Value) : Below B w (((((W.setCell ⟨g, 0, none⟩ a).setCell ⟨g, 1, none⟩ b).setCell ⟨g, 2, none⟩ c).setCell ⟨g, 3, none⟩ d).setCell ⟨g, 4, none⟩ e) :=
 ((((h.setCell hg a).setCell hg b).setCell hg c).setCell hg d).setCell hg e
theorem put5_heap {W : World} {g : Nat} {cs : Array Value} (h : W.heap[g]? = some (.cells cs 29 (0, 0))) (hs : cs.size = 5) (a b c d e : Value) :
  (((((W.setCell ⟨g, 0, none⟩ a).setCell ⟨g, 1, none⟩ b).setCell ⟨g, 2, none⟩ c).setCell ⟨g, 3, none⟩ d).setCell ⟨g, 4, none⟩ e).heap[g]? = some (.cells #[a, b, c, d, e] 29 (0, 0)) := by
 obtain ⟨l⟩ := cs
 match l, hs with
 | [c0, c1, c2, c3, c4], _ => exact heap_setCell_same _ g 4 _ _ e (heap_setCell_same _ g 3 _ _ d (heap_setCell_same _ g 2 _ _ c (heap_setCell_same _ g 1 _ _ b (heap_setCell_same W g 0 _ _ a h))))
theorem kret {fn : Func} {p : Tmp} (h : fn.results = #[.cell p 29]) (tmps : Array Value) (w : World) (g : Nat) (cs : Array Value) (hs : cs.size = 5)
  (hp : tmps.getD p undef = .pointer (some ⟨g, 0, none⟩)) (hg : w.heap[g]? = some (.cells cs 29 (0, 0))) : (results fn tmps).run Tryz.prog w = .ok (.agg cs) w :=
 results_cell_row h tmps w g 29 cs (0, 0) _ hp hg Tryz.underlying29 rfl (by rw [hs]; kernel_rfl)
theorem kg_put {w0 w : World} {k : Kx} {L g : Nat} (h : Kg w w0.heap.size k L) (hz : Kz w g) (hg0 : w0.heap.size ≤ g) (hb : Below w0.heap.size w0 w) :
  (w.cell? ⟨g, 0, none⟩ = some (.int .i64 0) ∧ w.cell? ⟨g, 1, none⟩ = some (.slice none 0 0) ∧ w.cell? ⟨g, 2, none⟩ = some (.bool false) ∧ w.cell? ⟨g, 3, none⟩ = some (.slice none 0 0) ∧ w.cell? ⟨g, 4, none⟩ = some (.slice none 0 0)) ∧
   (w.frozen? ⟨g, 0, none⟩ = false ∧ w.frozen? ⟨g, 1, none⟩ = false ∧ w.frozen? ⟨g, 2, none⟩ = false ∧ w.frozen? ⟨g, 3, none⟩ = false ∧ w.frozen? ⟨g, 4, none⟩ = false) ∧
   (((((w.setCell ⟨g, 0, none⟩ (.int .i64 k.s)).setCell ⟨g, 1, none⟩ (sv k.v)).setCell ⟨g, 2, none⟩ (.bool k.x.s)).setCell ⟨g, 3, none⟩ (sv k.x.u)).setCell ⟨g, 4, none⟩ (sv k.x.t)).heap[g]? = some (.cells #[.int .i64 k.s, sv k.v, .bool k.x.s, sv k.x.u, sv k.x.t] 29 (0, 0)) ∧
    Kg (((((w.setCell ⟨g, 0, none⟩ (.int .i64 k.s)).setCell ⟨g, 1, none⟩ (sv k.v)).setCell ⟨g, 2, none⟩ (.bool k.x.s)).setCell ⟨g, 3, none⟩ (sv k.x.u)).setCell ⟨g, 4, none⟩ (sv k.x.t)) w0.heap.size k L ∧
    Below w0.heap.size w0 (((((w.setCell ⟨g, 0, none⟩ (.int .i64 k.s)).setCell ⟨g, 1, none⟩ (sv k.v)).setCell ⟨g, 2, none⟩ (.bool k.x.s)).setCell ⟨g, 3, none⟩ (sv k.x.u)).setCell ⟨g, 4, none⟩ (sv k.x.t)) :=
 ⟨hz.all, ⟨hz.fz 0, hz.fz 1, hz.fz 2, hz.fz 3, hz.fz 4⟩, put5_heap hz rfl _ _ _ _ _, h.grownK (only_put5 w g _ _ _ _ _) hz.kb, below_put5 hb hg0 _ _ _ _ _⟩
def KfRet (w : World) (k : Kx) (M : Nat) (e : Ending) (w' : World) : Prop :=
 ∃ k' : Kx, e = .returned (kx k') ∧ Kg w' w.heap.size k' M ∧ k'.s = k.s ∧ Alk (tms k'.d) (tms k.d) ∧ k'.x.r = k.x.r ∧ k'.d.length ≤ k.d.length ∧ Below w.heap.size w w'
theorem issense_c (s : Int) (w : World) : Calls Tryz.prog 85 #[.int .i64 s] w fun e w' => BRet (IsS s) e ∧ w' = w := by
 by_cases h1 : s = 1
 ·subst h1
  go_enter Tryz.func85, Tryz.ntmps85
  go_wp2_with fail
  go_ret
  exact ⟨⟨true, rfl, by simp [IsS]⟩, rfl⟩
 ·by_cases h2 : s = 2
  ·subst h2
   go_enter Tryz.func85, Tryz.ntmps85
   go_wp2_with fail
   go_ret
   exact ⟨⟨true, rfl, by simp [IsS]⟩, rfl⟩
  ·by_cases h3 : s = 3
   ·subst h3
    go_enter Tryz.func85, Tryz.ntmps85
    go_wp2_with fail
    go_ret
    exact ⟨⟨true, rfl, by simp [IsS]⟩, rfl⟩
   ·have t1 : (s == 1) = false := beq_eq_false_iff_ne.2 h1
    have t2 : (s == 2) = false := beq_eq_false_iff_ne.2 h2
    have t3 : (s == 3) = false := beq_eq_false_iff_ne.2 h3
    have H := hide (show ¬ IsS s by rintro (h | h | h) <;> contradiction)
    clear h1 h2 h3
    go_enter Tryz.func85, Tryz.ntmps85
    go_wp2_with fail
    go_ret
    exact ⟨⟨false, rfl, by constructor <;> intro h; cases h; exact absurd h H.out⟩, rfl⟩
set_option maxHeartbeats 4000000 in
theorem kform_g {w : World} {k : Kx} {L : Nat} (hk : Kv w k L) (hn : k.d.length ≤ 100000) (h1 : 1 ≤ L) (hL : L ≤ 1000000) :
  Calls Tryz.prog 29 #[kx k] w (KfRet w k (k.d.length * (L + 1) + 1 + L)) := by
 obtain ⟨hv, hr⟩ := hk
 have b2 : Below w.heap.size w ((w.alloc (kbox k)).alloc kblk).drew := (((Below.refl _ _).alloc (Nat.le_refl _) _).alloc (by simp) _).drew
 have Z := hide (show Kz ((w.alloc (kbox k)).alloc kblk).drew (w.heap.size + 1) by
  have h := Kz.new (w.alloc (kbox k))
  have h2 : Kz ((w.alloc (kbox k)).alloc kblk) (w.heap.size + 1) := by simpa using h
  exact h2)
 have P := hide (show Kq ((w.alloc (kbox k)).alloc kblk).drew w.heap.size k from
  ((Kq.new w k).step ((Below.refl _ _).alloc (Nat.le_refl _) kblk)).step (Below.refl _ _).drew)
 have HV := hide (hv.step b2)
 have HR := hide (hr.step b2)
 have B := hide b2
 have HN := hide hn
 have hg0 : w.heap.size ≠ w.heap.size + 1 := by omega
 clear hv hr b2 hn
 go_enter Tryz.func29, Tryz.ntmps29
 go_wp2_with fail
 generalize hW0 : ((w.alloc (kbox k)).alloc kblk) = W0 at *
 go_region_held3 (fun W => W.cell? ⟨w.heap.size, 0, none⟩ = some (.int .i64 k.s) ∧ W.cell? ⟨w.heap.size, 1, none⟩ = some (sv k.v) ∧ W.cell? ⟨w.heap.size, 2, none⟩ = some (.bool k.x.s) ∧ W.cell? ⟨w.heap.size, 3, none⟩ = some (sv k.x.u) ∧ W.cell? ⟨w.heap.size, 4, none⟩ = some (sv k.x.t))
  (first | with_reducible exact P.out.all | with_reducible exact (((((P.out.other hg0 _ _).other hg0 _ _).other hg0 _ _).other hg0 _ _).other hg0 _ _).all)
  (first
   | (go_at_call 54; refine Calls.mono (make_t (L := L) HV.out HN.out h1 hL) ?_; rintro e wx ⟨v1, d1, rfl, t1, f1, g1, l1, bx⟩; obtain ⟨A5, n5, c5, rfl⟩ := rv_sl t1.tv.1; have T1 := hide (t1.mono (B' := w.heap.size) B.out.size); have F1 := hide f1; have G1 := hide g1; have N1 := hide l1; replace P := hide (P.out.step bx); replace HR := hide (HR.out.step bx); replace Z := hide (Z.out.step bx); replace B := hide (Below.step B.out B.out.size bx); clear t1 f1 g1 l1 bx)
   | (go_at_call 55; refine Calls.mono (form_g (L := L) HR.out h1 (by omega)) ?_; rintro e wx ⟨y, rfl, e3, r3, bx⟩; replace P := hide (P.out.step bx); obtain ⟨⟨k0, k1, k2, k3, k4⟩, ⟨f0, f1, f2, f3, f4⟩, fin⟩ := kg_put (w0 := w) (k := ⟨k.s, (A5, n5, c5), d1, y⟩) (L := k.d.length * (L + 1) + 1 + L) ⟨(T1.out.step bx).more (by omega), (r3.mono (B' := w.heap.size) B.out.size).more (by omega), F1.out⟩ (Z.out.step bx) (by omega) (Below.step B.out B.out.size bx); dsimp only at fin; have E3 := hide e3; clear e3))
 all_goals
  have F9 := hide fin
  clear fin
  go_wp2_with fail
  exact bodyPost_ret (kret rfl _ _ _ #[.int .i64 k.s, .slice A5 n5 c5, .bool y.s, sv y.u, sv y.t] rfl rfl F9.out.1) rfl ⟨⟨k.s, (A5, n5, c5), d1, y⟩, rfl, F9.out.2.1, rfl, G1.out, E3.out, N1.out, F9.out.2.2⟩
set_option maxHeartbeats 4000000 in
theorem kholds_c {w : World} {k : Kx} {u : Value} {f : List Rx} {L K : Nat} (hk : Kv w k L) (hu : Fv w u f K) (hn : k.d.length ≤ 1000) (h1 : 1 ≤ L) (hL : L ≤ 10000000) (h2 : 1 ≤ K) (hK : K ≤ 10000000) :
  Calls Tryz.prog 52 #[kx k, u] w fun e w' => BRet (Kpt k.s (dt (tms k.d) (xf f)) k.x.r) e ∧ Below w.heap.size w w' := by
 obtain ⟨hv, hr⟩ := hk
 obtain ⟨A6, n6, c6, rfl⟩ := rv_sl hu.1
 have b2 : Below w.heap.size w (w.alloc (kbox k)).drew := ((Below.refl _ _).alloc (Nat.le_refl _) _).drew
 have P := hide (show Kq (w.alloc (kbox k)).drew w.heap.size k from (Kq.new w k).step (Below.refl _ _).drew)
 have HV := hide (hv.step b2)
 have HR := hide (hr.step b2)
 have HU := hide (hu.step b2)
 have B := hide b2
 have HN := hide hn
 have HM := hide (show k.d.length * (L + K + 1) + 1 ≤ 30000000000 by have := Nat.mul_le_mul (show k.d.length ≤ 1000 from hn) (show L + K + 1 ≤ 20000001 by omega); omega)
 clear hv hr hu b2 hn
 go_enter Tryz.func52, Tryz.ntmps52
 go_wp2_with fail
 generalize hW0 : (w.alloc (kbox k)) = W0 at *
 go_region_held3 (fun W => W.cell? ⟨w.heap.size, 1, none⟩ = some (sv k.v) ∧ W.cell? ⟨w.heap.size, 2, none⟩ = some (.bool k.x.s) ∧ W.cell? ⟨w.heap.size, 3, none⟩ = some (sv k.x.u) ∧ W.cell? ⟨w.heap.size, 4, none⟩ = some (sv k.x.t))
  (with_reducible exact P.out.all.2)
  (first
   | (go_at_call 92; refine Calls.mono (dot_g (L := L) (K := K) HV.out HU.out HN.out h1 hL h2 hK) ?_; rintro e wx ⟨y, rfl, hy, ry, bx⟩; have HY := hide hy; have RY := hide ry.ra; replace P := hide (P.out.step bx); replace HR := hide (HR.out.step bx); replace B := hide (Below.step B.out B.out.size bx); clear hy ry bx)
   | (go_at_call 84; refine Calls.mono (cmp_r (L := k.d.length * (L + K + 1) + 1 + L) (RY.out.more' (by omega)) (HR.out.more' (by omega)) (by omega) (by have := HM.out; omega)) ?_; rintro e wx ⟨rfl, bx⟩; replace P := hide (P.out.step bx); replace B := hide (Below.step B.out B.out.size bx); clear bx))
 all_goals
  obtain ⟨z, hz⟩ : ∃ z, z = cmpR y.r k.x.r := ⟨_, rfl⟩
  rw [← hz]
  have HZ := hide hz
  clear hz
  obtain ⟨p0, p1, p2, p3, p4⟩ := P.out.all
  have hs : ((k.s == 1) = true ∧ Hid (∀ o : Bool, o = decide (z ≤ 0) → (o = true ↔ Kpt k.s (dt (tms k.d) (xf f)) k.x.r))) ∨
    ((k.s == 1) = false ∧ (k.s == 2) = true ∧ Hid (∀ o : Bool, o = decide (0 ≤ z) → (o = true ↔ Kpt k.s (dt (tms k.d) (xf f)) k.x.r))) ∨
    ((k.s == 1) = false ∧ (k.s == 2) = false ∧ (k.s == 3) = true ∧ Hid (∀ o : Bool, o = (z == 0) → (o = true ↔ Kpt k.s (dt (tms k.d) (xf f)) k.x.r))) ∨
    ((k.s == 1) = false ∧ (k.s == 2) = false ∧ (k.s == 3) = false ∧ Hid (¬ Kpt k.s (dt (tms k.d) (xf f)) k.x.r)) := by
   by_cases e1 : k.s = 1
   ·refine .inl ⟨beq_iff_eq.2 e1, hide fun o ho => ?_⟩
    rw [ho, decide_eq_true_iff, HZ.out, cmpR_le, HY.out, e1]
    simp [Kpt]
   ·refine .inr ?_
    by_cases e2 : k.s = 2
    ·refine .inl ⟨beq_eq_false_iff_ne.2 e1, beq_iff_eq.2 e2, hide fun o ho => ?_⟩
     rw [ho, decide_eq_true_iff, HZ.out, cmp_ge0, HY.out, e2]
     simp [Kpt]
    ·refine .inr ?_
     by_cases e3 : k.s = 3
     ·refine .inl ⟨beq_eq_false_iff_ne.2 e1, beq_eq_false_iff_ne.2 e2, beq_iff_eq.2 e3, hide fun o ho => ?_⟩
      rw [ho, beq_iff_eq, HZ.out, cmp_eq0, HY.out, e3]
      simp [Kpt]
     ·exact .inr ⟨beq_eq_false_iff_ne.2 e1, beq_eq_false_iff_ne.2 e2, beq_eq_false_iff_ne.2 e3, hide fun h => by rcases h.sense with h | h | h <;> contradiction⟩
  rcases hs with ⟨t1, K⟩ | ⟨t1, t2, K⟩ | ⟨t1, t2, t3, K⟩ | ⟨t1, t2, t3, K⟩
  ·go_wp2_with fail
   go_ret
   exact ⟨⟨_, rfl, K.out _ rfl⟩, B.out⟩
  ·go_wp2_with fail
   go_ret
   exact ⟨⟨_, rfl, K.out _ rfl⟩, B.out⟩
  ·go_wp2_with fail
   go_ret
   exact ⟨⟨_, rfl, K.out _ rfl⟩, B.out⟩
  ·go_wp2_with fail
   go_ret
   exact ⟨⟨false, rfl, by constructor <;> intro h; cases h; exact absurd h K.out⟩, B.out⟩
set_option maxHeartbeats 2000000 in
theorem isempty_c {w : World} {k : Kx} {L : Nat} (hk : Kv w k L) (hn : k.d.length ≤ 100000) (h1 : 1 ≤ L) (hL : L ≤ 1000000) :
  Calls Tryz.prog 87 #[kx k] w fun e w' => BRet (Bare (tms k.d)) e ∧ Below w.heap.size w w' := by
 obtain ⟨hv, hr⟩ := hk
 have b2 : Below w.heap.size w (w.alloc (kbox k)) := (Below.refl _ _).alloc (Nat.le_refl _) _
 have HV := hide (hv.step b2)
 have B := hide b2
 have HN := hide hn
 clear hv hr b2 hn
 go_enter Tryz.func87, Tryz.ntmps87
 go_wp2_with fail
 refine (make_t (L := L) HV.out HN.out h1 hL).mono ?_
 rintro e w1 ⟨v1, d1, rfl, t1, f1, g1, l1, bx⟩
 obtain ⟨A5, c5, rfl, -, -, -⟩ := t1.tv.1
 have H := hide (show d1.length = 0 ↔ Bare (tms k.d) by
  rw [bare_fm f1 g1, ← tms_len, List.length_eq_zero_iff])
 replace B := hide (Below.step B.out B.out.size bx)
 generalize d1.length = m at *
 clear t1 f1 g1 l1 bx
 go_wp2_with fail
 go_ret
 exact ⟨⟨_, rfl, by rw [← H.out, beq_iff_eq]; omega⟩, B.out⟩
theorem fv_nil (W : World) : Fv W (.slice none 0 0) [] 1 := ⟨Lr.nil er 3 W, fun x hx => by cases hx⟩
theorem dt_nil (ts : List Tm) : dt ts (xf []) = 0 := by rw [dt_sum ts 0 (xf []) (fun c hc => xf_out [] c (by simpa using by omega))]; rfl
set_option maxHeartbeats 4000000 in
theorem kfalse_c {w : World} {k : Kx} {L : Nat} (hk : Kv w k L) (hn : k.d.length ≤ 1000) (h1 : 1 ≤ L) (hL : L ≤ 1000000) :
    Calls Tryz.prog 86 #[kx k] w fun e w' => BRet (Fls k.s (tms k.d) k.x.r) e ∧ Below w.heap.size w w' := by
  have b2 : Below w.heap.size w (w.alloc (kbox k)) := (Below.refl _ _).alloc (Nat.le_refl _) _
  have P := hide (Kq.new w k)
  have HK := hide (hk.step b2)
  have B := hide b2
  have HN := hide hn
  clear hk b2 hn
  obtain ⟨p0, p1, p2, p3, p4⟩ := P.out.all
  go_enter Tryz.func86, Tryz.ntmps86
  go_wp2_with fail
  refine (issense_c k.s _).mono ?_
  rintro e w1 ⟨⟨b, rfl, hb⟩, rfl⟩
  have H1 := hide hb
  clear hb
  cases b
  · go_wp2_with fail
    go_ret
    exact ⟨⟨false, rfl, by constructor <;> intro h; cases h; exact absurd (H1.out.2 h.1) (by simp)⟩, B.out⟩
  · go_wp2_with fail
    refine (isempty_c HK.out (Nat.le_trans HN.out (by omega)) h1 hL).mono ?_
    rintro e w2 ⟨⟨b, rfl, hb⟩, bx⟩
    have H2 := hide hb
    replace P := hide (P.out.step bx)
    replace HK := hide (HK.out.step bx)
    replace B := hide (Below.step B.out B.out.size bx)
    clear hb bx p0 p1 p2 p3 p4
    obtain ⟨p0, p1, p2, p3, p4⟩ := P.out.all
    cases b
    · go_wp2_with fail
      go_ret
      exact ⟨⟨false, rfl, by constructor <;> intro h; cases h; exact absurd (H2.out.2 h.2.1) (by simp)⟩, B.out⟩
    · go_wp2_with fail
      refine (kholds_c HK.out (fv_nil _) HN.out h1 (by omega) (Nat.le_refl _) (by omega)).mono ?_
      rintro e w3 ⟨⟨b, rfl, hb⟩, bx⟩
      rw [dt_nil] at hb
      have H3 := hide hb
      replace B := hide (Below.step B.out B.out.size bx)
      clear hb bx p0 p1 p2 p3 p4
      cases b
      · go_wp2_with fail
        go_ret
        exact ⟨⟨true, rfl, by
          constructor
          · intro _
            exact ⟨H1.out.1 (by simp), H2.out.1 (by simp), fun h => absurd (H3.out.2 h) (by simp)⟩
          · intro _; rfl⟩, B.out⟩
      · go_wp2_with fail
        go_ret
        exact ⟨⟨false, rfl, by constructor <;> intro h; cases h; exact absurd (H3.out.1 (by simp)) h.2.2⟩, B.out⟩
set_option maxHeartbeats 2000000 in
theorem alike1_c {x y : Tx} {L M : Nat} {w : World} (hx : Ra w (rx x.x) x.x.r L) (hy : Ra w (rx y.x) y.x.r M) (h1 : 1 ≤ L) (hL : L ≤ 1000000000000) (hM : M ≤ 1000000000000) :
    Calls Tryz.prog 116 #[.agg (et x).toArray, .agg (et y).toArray] w fun e w' => BRet (x.c = y.c ∧ x.x.r = y.x.r) e ∧ Below w.heap.size w w' := by
  have b2 : Below w.heap.size w ((w.alloc (.cells #[.int .i64 x.c, .bool x.x.s, sv x.x.u, sv x.x.t] 59)).alloc (.cells #[.int .i64 y.c, .bool y.x.s, sv y.x.u, sv y.x.t] 59)) := ((Below.refl _ _).alloc (Nat.le_refl _) _).alloc (by simp) _
  have HX := hide (hx.step b2)
  have HY := hide (hy.step b2)
  have B := hide b2
  clear hx hy b2
  show Calls Tryz.prog 116 #[.agg #[.int .i64 x.c, .bool x.x.s, sv x.x.u, sv x.x.t], .agg #[.int .i64 y.c, .bool y.x.s, sv y.x.u, sv y.x.t]] w _
  go_enter Tryz.func116, Tryz.ntmps116
  by_cases hc : x.c = y.c
  · have HC := hide hc
    have t1 : (x.c == y.c) = true := by rw [hc]; exact beq_self_eq_true _
    clear hc
    go_wp2_with fail
    refine (cmp_r (L := L + M) (HX.out.more' (by omega)) (HY.out.more' (by omega)) (by omega) (by omega)).mono ?_
    rintro e w1 ⟨rfl, bx⟩
    replace B := hide (Below.step B.out B.out.size bx)
    obtain ⟨z, hz⟩ : ∃ z, z = cmpR x.x.r y.x.r := ⟨_, rfl⟩
    rw [← hz]
    have HZ := hide hz
    clear hz bx
    go_wp2_with fail
    go_ret
    exact ⟨⟨_, rfl, by rw [beq_iff_eq, HZ.out, cmp_eq0]; exact ⟨fun h => ⟨HC.out, h⟩, fun h => h.2⟩⟩, B.out⟩
  · have t1 : (x.c == y.c) = false := beq_eq_false_iff_ne.2 hc
    have HC := hide hc
    clear hc
    go_wp2_with fail
    go_ret
    exact ⟨⟨false, rfl, by constructor <;> intro h; cases h; exact absurd h.1 HC.out⟩, B.out⟩
theorem enter_alike : ∀ args w, (callFunc 116 args).run Tryz.prog w = .ok (.enter 116 args) w := Go.Proofs.enters_of Tryz.func116 (by kernel_rfl) rfl
def Sk (d f : List Tx) (k : Nat) : Prop := ∀ j x y, j < k → d[j]? = some x → f[j]? = some y → x.c = y.c ∧ x.x.r = y.x.r
theorem Sk.zero (d f : List Tx) : Sk d f 0 := fun j x y h => by omega
theorem Sk.next {d f : List Tx} {k : Nat} {x y : Tx} (h : Sk d f k) (hx : d[k]? = some x) (hy : f[k]? = some y) (eq : x.c = y.c ∧ x.x.r = y.x.r) : Sk d f (k + 1) := by
  intro j x' y' hj hx' hy'
  by_cases e : j = k
  · subst e
    rw [hx] at hx'; rw [hy] at hy'
    cases hx'; cases hy'
    exact eq
  · exact h j x' y' (by omega) hx' hy'
theorem Sk.done {d f : List Tx} {k : Nat} (h : Sk d f k) (hk : d.length ≤ k) (hl : d.length = f.length) : tms d = tms f := by
  refine List.ext_getElem? (fun j => ?_)
  unfold tms
  rw [List.getElem?_map, List.getElem?_map]
  by_cases hj : j < d.length
  · obtain ⟨x, hx⟩ := len_of hj
    obtain ⟨y, hy⟩ := len_of (d := f) (k := j) (by omega)
    have := h j x y (by omega) hx hy
    rw [hx, hy]
    simp [tm, this.1, this.2]
  · rw [List.getElem?_eq_none (by omega), List.getElem?_eq_none (by omega)]
set_option maxHeartbeats 8000000 in
theorem equalfunc_c {w : World} {u v : Value} {d f : List Tx} {L M : Nat} (hu : Tv w u d L) (hv : Tv w v f M) (h1 : 1 ≤ L) (hL : L ≤ 1000000000000) (hM : M ≤ 1000000000000) :
    Calls Tryz.prog 82 #[u, v, .func (.func 116) #[] #[]] w fun e w' => BRet (tms d = tms f) e ∧ Below w.heap.size w w' := by
  obtain ⟨A, c, e1, hc1, hc2, hc3⟩ := id hu.1
  obtain ⟨D, m, e2, hd1, hd2, hd3⟩ := id hv.1
  obtain ⟨n, hlen⟩ : ∃ n, n = d.length := ⟨_, rfl⟩
  obtain ⟨n', hlen'⟩ : ∃ n', n' = f.length := ⟨_, rfl⟩
  rw [← hlen] at e1 hc1
  rw [← hlen'] at e2 hd1
  subst e1 e2
  have HU := hide hu
  have HV := hide hv
  have HN := hide hlen
  have HL := hide hlen'
  have eg := enter_alike
  unfold maxLen at hc2
  clear hu hv hc3 hd3 hlen hlen'
  go_enter Tryz.func82, Tryz.ntmps82
  by_cases hnn : n = n'
  case neg =>
    have t0 : ((n : Int) != (n' : Int)) = true := by simp; omega
    go_wp2_with fail
    go_ret
    exact ⟨⟨false, rfl, by
      constructor
      · intro h; cases h
      · intro h; have h1 := congrArg List.length h; rw [tms_len, tms_len, ← HN.out, ← HL.out] at h1; exact absurd h1 hnn⟩, Below.refl _ _⟩
  subst hnn
  have t0 : ((n : Int) != (n : Int)) = false := by simp
  go_wp2_with fail
  go_loopw [17] (fun iv wr => ∃ k : Nat, k ≤ n ∧ iv = .int .i64 (k : Int) ∧ Hid (Below w.heap.size w wr) ∧ Hid (Sk d f k)) (fun iv _ => n - (intOf iv).toNat)
  case atStart => exact ⟨0, Nat.zero_le _, rfl, hide (Below.refl _ _), hide (Sk.zero d f)⟩
  case round =>
    obtain ⟨k, hk, rfl, B, S⟩ := hrel
    by_cases hlt : k < n
    · obtain ⟨x, hx⟩ := len_of (d := d) (k := k) (by rw [← HN.out]; exact hlt)
      obtain ⟨y, hy⟩ := len_of (d := f) (k := k) (by rw [← HL.out]; exact hlt)
      have b8 : Below wr.heap.size wr ((wr.alloc (.cells #[.int .i64 x.c, .bool x.x.s, sv x.x.u, sv x.x.t] 59)).alloc (.cells #[.int .i64 y.c, .bool y.x.s, sv y.x.u, sv y.x.t] 59)) := ((Below.refl _ _).alloc (Nat.le_refl _) _).alloc (by simp) _
      have RX := hide (((HU.out.2 x (List.mem_of_getElem? hx)).step B.out).step b8)
      have RY := hide (((HV.out.2 y (List.mem_of_getElem? hy)).step B.out).step b8)
      obtain ⟨b, off, rfl, hb, hc⟩ := (HU.out.1.step B.out).get hx
      obtain ⟨b', off', rfl, hb', hc'⟩ := (HV.out.1.step B.out).get hy
      have c0 := hc 0 _ rfl
      have c1 := hc 1 _ rfl
      have c2 := hc 2 _ rfl
      have c3 := hc 3 _ rfl
      have d0 := cell_keep (hc' 0 _ rfl) ((Below.refl wr.heap.size wr).alloc (Nat.le_refl _) (.cells #[.int .i64 x.c, .bool x.x.s, sv x.x.u, sv x.x.t] 59))
      have d1 := cell_keep (hc' 1 _ rfl) ((Below.refl wr.heap.size wr).alloc (Nat.le_refl _) (.cells #[.int .i64 x.c, .bool x.x.s, sv x.x.u, sv x.x.t] 59))
      have d2 := cell_keep (hc' 2 _ rfl) ((Below.refl wr.heap.size wr).alloc (Nat.le_refl _) (.cells #[.int .i64 x.c, .bool x.x.s, sv x.x.u, sv x.x.t] 59))
      have d3 := cell_keep (hc' 3 _ rfl) ((Below.refl wr.heap.size wr).alloc (Nat.le_refl _) (.cells #[.int .i64 x.c, .bool x.x.s, sv x.x.u, sv x.x.t] 59))
      rw [Nat.add_zero] at c0 d0
      have l0 : (0 : Int) ≤ (k : Int) := by omega
      have l1 : (k : Int) < (n : Int) := by omega
      have HX := hide hx
      have HY := hide hy
      have B8 := hide (Below.step B.out B.out.size b8)
      have hcall := hide (alike1_c (x := x) (y := y) RX.out RY.out h1 hL hM)
      clear hc hc' hb hb' hx hy b8
      go_wp2_with (go_at_fn 116; refine hcall.out.mono ?_; rintro e w3 ⟨⟨b9, rfl, hb9⟩, bx⟩; have H9 := hide hb9; have B9 := hide (Below.step B8.out B8.out.size bx); clear hb9 bx; cases b9)
      · go_ret
        exact ⟨⟨false, rfl, by
          constructor
          · intro h; cases h
          · intro h; exact H9.out.2 (tms_at h HX.out HY.out)⟩, B9.out⟩
      · exact ⟨⟨k + 1, by omega, by go_num, B9, hide (S.out.next HX.out HY.out (H9.out.1 (by simp)))⟩, by simp [intOf]; omega⟩
    · obtain rfl : k = n := by omega
      go_wp2_with fail
      go_ret
      exact ⟨⟨true, rfl, by
        constructor
        · intro _; exact S.out.done (by rw [← HN.out]; exact Nat.le_refl _) (by rw [← HN.out, ← HL.out])
        · intro _; rfl⟩, B.out⟩
set_option maxHeartbeats 4000000 in
theorem sameterms_c {w : World} {a b : Kx} {L M : Nat} (ha : Kv w a L) (hb : Kv w b M) (hn : a.d.length ≤ 1000) (hm : b.d.length ≤ 1000) (h1 : 1 ≤ L) (hL : L ≤ 1000000) (h2 : 1 ≤ M) (hM : M ≤ 1000000) :
    Calls Tryz.prog 89 #[kx a, kx b] w fun e w' => BRet (Alk (tms a.d) (tms b.d)) e ∧ Below w.heap.size w w' := by
  have b2 : Below w.heap.size w ((w.alloc (kbox a)).alloc (kbox b)).drew := (((Below.refl _ _).alloc (Nat.le_refl _) _).alloc (by simp) _).drew
  have P := hide (show Kq ((w.alloc (kbox a)).alloc (kbox b)).drew w.heap.size a from ((Kq.new w a).step ((Below.refl _ _).alloc (Nat.le_refl _) (kbox b))).step (Below.refl _ _).drew)
  have P2 := hide (show Kq ((w.alloc (kbox a)).alloc (kbox b)).drew (w.heap.size + 1) b by
    have h := Kq.new (w.alloc (kbox a)) b
    have h2 : Kq ((w.alloc (kbox a)).alloc (kbox b)) (w.heap.size + 1) b := by simpa using h
    exact h2)
  have HV := hide (ha.1.step b2)
  have HW := hide (hb.1.step b2)
  have B := hide b2
  have HN := hide hn
  have HM := hide hm
  have HB1 := hide (show a.d.length * (L + 1) + 1 ≤ 1000000000000 by have := Nat.mul_le_mul hn (show L + 1 ≤ 1000001 by omega); omega)
  have HB2 := hide (show b.d.length * (M + 1) + 1 ≤ 1000000000000 by have := Nat.mul_le_mul hm (show M + 1 ≤ 1000001 by omega); omega)
  clear ha hb b2 hn hm
  go_enter Tryz.func89, Tryz.ntmps89
  go_wp2_with fail
  generalize hW0 : ((w.alloc (kbox a)).alloc (kbox b)) = W0 at *
  go_region_held3 (fun W => W.cell? ⟨w.heap.size, 1, none⟩ = some (sv a.v) ∧ W.cell? ⟨w.heap.size + 1, 1, none⟩ = some (sv b.v))
    (exact ⟨P.out.all.2.1, P2.out.all.2.1⟩)
    (first
      | (go_at_call 54; first | (refine Calls.mono (make_t (L := L) HV.out (Nat.le_trans HN.out (by omega)) h1 hL) ?_; rintro e wx ⟨v1, d1, rfl, t1, f1, g1, l1, bx⟩; have T1 := hide t1; have F1 := hide f1; have G1 := hide g1; replace P := hide (P.out.step bx); replace P2 := hide (P2.out.step bx); replace HW := hide (HW.out.step bx); replace B := hide (Below.step B.out B.out.size bx); clear t1 f1 g1 l1 bx HV)
                                          | (refine Calls.mono (make_t (L := M) HW.out (Nat.le_trans HM.out (by omega)) h2 hM) ?_; rintro e wx ⟨v2, d2, rfl, t2, f2, g2, l2, bx⟩; have T2 := hide t2; have F2 := hide f2; have G2 := hide g2; replace P := hide (P.out.step bx); replace P2 := hide (P2.out.step bx); replace T1 := hide (T1.out.step bx); replace B := hide (Below.step B.out B.out.size bx); clear t2 f2 g2 l2 bx HW))
      | (go_at_call 82; refine Calls.mono (equalfunc_c T1.out.tv T2.out.tv (by omega) HB1.out HB2.out) ?_; rintro e wx ⟨⟨b9, rfl, hb9⟩, bx⟩; have H9 := hide hb9; replace P := hide (P.out.step bx); replace P2 := hide (P2.out.step bx); replace B := hide (Below.step B.out B.out.size bx); clear hb9 bx))
  all_goals
    go_wp2_with fail
    go_ret
    exact ⟨⟨_, rfl, by rw [H9.out, alk_fm F1.out G1.out F2.out G2.out]⟩, B.out⟩
set_option maxHeartbeats 4000000 in
theorem istighter_c {w : World} {a b : Kx} {L M : Nat} (ha : Kv w a L) (hb : Kv w b M) (hs : IsS b.s) (h1 : 1 ≤ L) (hL : L ≤ 1000000) (h2 : 1 ≤ M) (hM : M ≤ 1000000) :
  Calls Tryz.prog 88 #[kx a, kx b] w fun e w' => BRet ((a.s = b.s ∨ a.s = 3) ∧ Kpt b.s a.x.r b.x.r) e ∧ Below w.heap.size w w' := by
 have b2 : Below w.heap.size w ((w.alloc (kbox a)).alloc (kbox b)) := ((Below.refl _ _).alloc (Nat.le_refl _) _).alloc (by simp) _
 have P := hide (show Kq ((w.alloc (kbox a)).alloc (kbox b)) w.heap.size a from (Kq.new w a).step ((Below.refl _ _).alloc (Nat.le_refl _) (kbox b)))
 have P2 := hide (show Kq ((w.alloc (kbox a)).alloc (kbox b)) (w.heap.size + 1) b by
  have h := Kq.new (w.alloc (kbox a)) b
  have h2 : Kq ((w.alloc (kbox a)).alloc (kbox b)) (w.heap.size + 1) b := by simpa using h
  exact h2)
 have RA := hide (ha.2.step b2)
 have RB := hide (hb.2.step b2)
 have B := hide b2
 have HS := hide hs
 clear ha hb b2 hs
 obtain ⟨p0, p1, p2, p3, p4⟩ := P.out.all
 obtain ⟨q0, q1, q2, q3, q4⟩ := P2.out.all
 go_enter Tryz.func88, Tryz.ntmps88
 go_wp2_with fail
 refine (cmp_r (L := L + M) (RA.out.more' (by omega)) (RB.out.more' (by omega)) (by omega) (by omega)).mono ?_
 rintro e w1 ⟨rfl, bx⟩
 obtain ⟨z, hz⟩ : ∃ z, z = cmpR a.x.r b.x.r := ⟨_, rfl⟩
 rw [← hz]
 have HZ := hide hz
 replace P := hide (P.out.step bx)
 replace P2 := hide (P2.out.step bx)
 replace B := hide (Below.step B.out B.out.size bx)
 clear hz bx p0 p1 p2 p3 p4 q0 q1 q2 q3 q4
 obtain ⟨p0, p1, p2, p3, p4⟩ := P.out.all
 obtain ⟨q0, q1, q2, q3, q4⟩ := P2.out.all
 by_cases h : a.s = b.s ∨ a.s = 3
 case neg =>
  have t0 : (a.s != b.s) = true := by rw [bne_iff_ne]; intro e; exact h (.inl e)
  have t1 : (a.s != 3) = true := by rw [bne_iff_ne]; intro e; exact h (.inr e)
  have H := hide h
  clear h
  go_wp2_with fail
  go_ret
  exact ⟨⟨false, rfl, by constructor <;> intro h; cases h; exact absurd h.1 H.out⟩, B.out⟩
 have H := hide h
 clear h
 have hh : ((a.s != b.s) = false) ∨ ((a.s != b.s) = true ∧ (a.s != 3) = false) := by
  rcases H.out with h | h
  ·left; rw [h]; simp
  ·by_cases e : a.s = b.s
   ·left; rw [e]; simp
   ·right; exact ⟨bne_iff_ne.2 e, by rw [h]; rfl⟩
 have hk : ((b.s == 1) = true ∧ Hid (∀ o : Bool, o = decide (z ≤ 0) → (o = true ↔ (a.s = b.s ∨ a.s = 3) ∧ Kpt b.s a.x.r b.x.r))) ∨
   ((b.s == 1) = false ∧ (b.s == 2) = true ∧ Hid (∀ o : Bool, o = decide (0 ≤ z) → (o = true ↔ (a.s = b.s ∨ a.s = 3) ∧ Kpt b.s a.x.r b.x.r))) ∨
   ((b.s == 1) = false ∧ (b.s == 2) = false ∧ Hid (∀ o : Bool, o = (z == 0) → (o = true ↔ (a.s = b.s ∨ a.s = 3) ∧ Kpt b.s a.x.r b.x.r))) := by
  rcases HS.out with h | h | h
  ·refine .inl ⟨by rw [h]; rfl, hide fun o ho => ?_⟩
   rw [ho, decide_eq_true_iff, HZ.out, cmpR_le]
   constructor
   ·intro k; exact ⟨H.out, .inl ⟨h, k⟩⟩
   ·rintro ⟨_, ⟨_, k⟩ | ⟨k, _⟩ | ⟨k, _⟩⟩
    ·exact k
    ·omega
    ·omega
  ·refine .inr (.inl ⟨by rw [h]; rfl, by rw [h]; rfl, hide fun o ho => ?_⟩)
   rw [ho, decide_eq_true_iff, HZ.out, cmp_ge0]
   constructor
   ·intro k; exact ⟨H.out, .inr (.inl ⟨h, k⟩)⟩
   ·rintro ⟨_, ⟨k, _⟩ | ⟨_, k⟩ | ⟨k, _⟩⟩
    ·omega
    ·exact k
    ·omega
  ·refine .inr (.inr ⟨by rw [h]; rfl, by rw [h]; rfl, hide fun o ho => ?_⟩)
   rw [ho, beq_iff_eq, HZ.out, cmp_eq0]
   constructor
   ·intro k; exact ⟨H.out, .inr (.inr ⟨h, k⟩)⟩
   ·rintro ⟨_, ⟨k, _⟩ | ⟨k, _⟩ | ⟨_, k⟩⟩
    ·omega
    ·omega
    ·exact k
 rcases hh with t0 | ⟨t0, t1⟩ <;> rcases hk with ⟨s1, K⟩ | ⟨s1, s2, K⟩ | ⟨s1, s2, K⟩
 all_goals
  go_wp2_with fail
  go_ret
  exact ⟨⟨_, rfl, K.out _ rfl⟩, B.out⟩
set_option maxHeartbeats 8000000 in
theorem kdom_c {w : World} {a b : Kx} {L M : Nat} (ha : Kv w a L) (hb : Kv w b M) (hn : a.d.length ≤ 1000) (hm : b.d.length ≤ 1000) (h1 : 1 ≤ L) (hL : L ≤ 1000000) (h2 : 1 ≤ M) (hM : M ≤ 1000000) :
  Calls Tryz.prog 47 #[kx a, kx b] w fun e w' => BRet (Domi a.s (tms a.d) a.x.r b.s (tms b.d) b.x.r) e ∧ Below w.heap.size w w' := by
 have b2 : Below w.heap.size w ((w.alloc (kbox a)).alloc (kbox b)) := ((Below.refl _ _).alloc (Nat.le_refl _) _).alloc (by simp) _
 have P := hide (show Kq ((w.alloc (kbox a)).alloc (kbox b)) w.heap.size a from (Kq.new w a).step ((Below.refl _ _).alloc (Nat.le_refl _) (kbox b)))
 have P2 := hide (show Kq ((w.alloc (kbox a)).alloc (kbox b)) (w.heap.size + 1) b by
  have h := Kq.new (w.alloc (kbox a)) b
  have h2 : Kq ((w.alloc (kbox a)).alloc (kbox b)) (w.heap.size + 1) b := by simpa using h
  exact h2)
 have HA := hide (ha.step b2)
 have HB := hide (hb.step b2)
 have B := hide b2
 have HN := hide hn
 have HM := hide hm
 clear ha hb b2 hn hm
 obtain ⟨p0, p1, p2, p3, p4⟩ := P.out.all
 obtain ⟨q0, q1, q2, q3, q4⟩ := P2.out.all
 go_enter Tryz.func47, Tryz.ntmps47
 go_wp2_with fail
 refine (issense_c a.s _).mono ?_
 rintro e w1 ⟨⟨o, rfl, ho⟩, rfl⟩
 have H1 := hide ho
 clear ho
 cases o
 ·go_wp2_with fail
  go_ret
  exact ⟨⟨false, rfl, by constructor <;> intro h; cases h; exact absurd (H1.out.2 h.1) (by simp)⟩, B.out⟩
 go_wp2_with fail
 refine (issense_c b.s _).mono ?_
 rintro e w1 ⟨⟨o, rfl, ho⟩, rfl⟩
 have H2 := hide ho
 clear ho
 cases o
 ·go_wp2_with fail
  go_ret
  exact ⟨⟨false, rfl, by constructor <;> intro h; cases h; exact absurd (H2.out.2 h.2.1) (by simp)⟩, B.out⟩
 have S1 := hide (H1.out.1 (by simp))
 have S2 := hide (H2.out.1 (by simp))
 clear H1 H2
 go_wp2_with fail
 refine (kfalse_c HA.out HN.out h1 hL).mono ?_
 rintro e w1 ⟨⟨o, rfl, ho⟩, bx⟩
 have H1 := hide ho
 replace P := hide (P.out.step bx)
 replace P2 := hide (P2.out.step bx)
 replace HA := hide (HA.out.step bx)
 replace HB := hide (HB.out.step bx)
 replace B := hide (Below.step B.out B.out.size bx)
 clear ho bx p0 p1 p2 p3 p4 q0 q1 q2 q3 q4
 obtain ⟨p0, p1, p2, p3, p4⟩ := P.out.all
 obtain ⟨q0, q1, q2, q3, q4⟩ := P2.out.all
 cases o
 case true =>
  go_wp2_with fail
  go_ret
  exact ⟨⟨true, rfl, by constructor <;> intro h; exact ⟨S1.out, S2.out, .inl (H1.out.1 (by simp))⟩; rfl⟩, B.out⟩
 have N1 := hide (show ¬ Fls a.s (tms a.d) a.x.r from fun h => absurd (H1.out.2 h) (by simp))
 clear H1
 go_wp2_with fail
 refine (isempty_c HB.out (Nat.le_trans HM.out (by omega)) h2 hM).mono ?_
 rintro e w1 ⟨⟨o, rfl, ho⟩, bx⟩
 have H1 := hide ho
 replace P := hide (P.out.step bx)
 replace P2 := hide (P2.out.step bx)
 replace HA := hide (HA.out.step bx)
 replace HB := hide (HB.out.step bx)
 replace B := hide (Below.step B.out B.out.size bx)
 clear ho bx p0 p1 p2 p3 p4 q0 q1 q2 q3 q4
 obtain ⟨p0, p1, p2, p3, p4⟩ := P.out.all
 obtain ⟨q0, q1, q2, q3, q4⟩ := P2.out.all
 have N2 : Hid (o = false → ¬ (Bare (tms b.d) ∧ Kpt b.s 0 b.x.r)) := hide (fun e h => by have := H1.out.2 h.1; rw [e] at this; cases this)
 cases o
 case true =>
  go_wp2_with fail
  refine (kholds_c HB.out (fv_nil _) HM.out h2 (by omega) (Nat.le_refl _) (by omega)).mono ?_
  rintro e w1 ⟨⟨o, rfl, ho⟩, bx⟩
  rw [dt_nil] at ho
  have H2 := hide ho
  replace P := hide (P.out.step bx)
  replace P2 := hide (P2.out.step bx)
  replace HA := hide (HA.out.step bx)
  replace HB := hide (HB.out.step bx)
  replace B := hide (Below.step B.out B.out.size bx)
  clear ho bx p0 p1 p2 p3 p4 q0 q1 q2 q3 q4
  obtain ⟨p0, p1, p2, p3, p4⟩ := P.out.all
  obtain ⟨q0, q1, q2, q3, q4⟩ := P2.out.all
  cases o
  case true =>
   go_wp2_with fail
   go_ret
   exact ⟨⟨true, rfl, by constructor <;> intro h; exact ⟨S1.out, S2.out, .inr (.inl ⟨H1.out.1 (by simp), H2.out.1 (by simp)⟩)⟩; rfl⟩, B.out⟩
  replace N2 := hide (show ¬ (Bare (tms b.d) ∧ Kpt b.s 0 b.x.r) from fun h => absurd (H2.out.2 h.2) (by simp))
  go_wp2_with fail
  refine (istighter_c HA.out HB.out S2.out h1 hL h2 hM).mono ?_
  rintro e w1 ⟨⟨o, rfl, ho⟩, bx⟩
  have H3 := hide ho
  replace P := hide (P.out.step bx)
  replace P2 := hide (P2.out.step bx)
  replace HA := hide (HA.out.step bx)
  replace HB := hide (HB.out.step bx)
  replace B := hide (Below.step B.out B.out.size bx)
  clear ho bx p0 p1 p2 p3 p4 q0 q1 q2 q3 q4
  obtain ⟨p0, p1, p2, p3, p4⟩ := P.out.all
  obtain ⟨q0, q1, q2, q3, q4⟩ := P2.out.all
  cases o
  case false =>
   go_wp2_with fail
   go_ret
   exact ⟨⟨false, rfl, by
    constructor
    ·intro h; cases h
    ·rintro ⟨_, _, h | h | ⟨h, k, _⟩⟩
     ·exact absurd h N1.out
     ·exact absurd h N2.out
     ·exact H3.out.2 ⟨h, k⟩⟩, B.out⟩
  go_wp2_with fail
  refine (sameterms_c HA.out HB.out HN.out HM.out h1 hL h2 hM).mono ?_
  rintro e w1 ⟨⟨o, rfl, ho⟩, bx⟩
  have H4 := hide ho
  replace B := hide (Below.step B.out B.out.size bx)
  clear ho bx p0 p1 p2 p3 p4 q0 q1 q2 q3 q4
  go_wp2_with fail
  go_ret
  exact ⟨⟨_, rfl, by
   rw [H4.out]
   constructor
   ·intro h; exact ⟨S1.out, S2.out, .inr (.inr ⟨(H3.out.1 (by simp)).1, (H3.out.1 (by simp)).2, h⟩)⟩
   ·rintro ⟨_, _, h | h | ⟨_, _, h⟩⟩
    ·exact absurd h N1.out
    ·exact absurd h N2.out
    ·exact h⟩, B.out⟩
 case false =>
  replace N2 := hide (N2.out rfl)
  go_wp2_with fail
  refine (istighter_c HA.out HB.out S2.out h1 hL h2 hM).mono ?_
  rintro e w1 ⟨⟨o, rfl, ho⟩, bx⟩
  have H3 := hide ho
  replace P := hide (P.out.step bx)
  replace P2 := hide (P2.out.step bx)
  replace HA := hide (HA.out.step bx)
  replace HB := hide (HB.out.step bx)
  replace B := hide (Below.step B.out B.out.size bx)
  clear ho bx p0 p1 p2 p3 p4 q0 q1 q2 q3 q4
  obtain ⟨p0, p1, p2, p3, p4⟩ := P.out.all
  obtain ⟨q0, q1, q2, q3, q4⟩ := P2.out.all
  cases o
  case false =>
   go_wp2_with fail
   go_ret
   exact ⟨⟨false, rfl, by
    constructor
    ·intro h; cases h
    ·rintro ⟨_, _, h | h | ⟨h, k, _⟩⟩
     ·exact absurd h N1.out
     ·exact absurd h N2.out
     ·exact H3.out.2 ⟨h, k⟩⟩, B.out⟩
  go_wp2_with fail
  refine (sameterms_c HA.out HB.out HN.out HM.out h1 hL h2 hM).mono ?_
  rintro e w1 ⟨⟨o, rfl, ho⟩, bx⟩
  have H4 := hide ho
  replace B := hide (Below.step B.out B.out.size bx)
  clear ho bx p0 p1 p2 p3 p4 q0 q1 q2 q3 q4
  go_wp2_with fail
  go_ret
  exact ⟨⟨_, rfl, by
   rw [H4.out]
   constructor
   ·intro h; exact ⟨S1.out, S2.out, .inr (.inr ⟨(H3.out.1 (by simp)).1, (H3.out.1 (by simp)).2, h⟩)⟩
   ·rintro ⟨_, _, h | h | ⟨_, _, h⟩⟩
    ·exact absurd h N1.out
    ·exact absurd h N2.out
    ·exact h⟩, B.out⟩
theorem Kq.putx {W : World} {g : Nat} {k : Kx} (h : Kq W g k) (y : Rx) :
  Kq (((W.setCell ⟨g, 2, none⟩ (.bool y.s)).setCell ⟨g, 3, none⟩ (sv y.u)).setCell ⟨g, 4, none⟩ (sv y.t)) g ⟨k.s, k.v, k.d, y⟩ :=
 heap_setCell_same _ g 4 _ _ _ (heap_setCell_same _ g 3 _ _ _ (heap_setCell_same W g 2 _ _ _ h))
theorem only_putx (W : World) (g : Nat) (a b c : Value) : W.grownBy (((W.setCell ⟨g, 2, none⟩ a).setCell ⟨g, 3, none⟩ b).setCell ⟨g, 4, none⟩ c) (some g) :=
 only_set (p := ⟨g, 4, none⟩) (only_set (p := ⟨g, 3, none⟩) (only_set (p := ⟨g, 2, none⟩) (only_refl W (some g)) rfl a) rfl b) rfl c
end Go.Proofs.YtofmhfbbedalbaaGreat
