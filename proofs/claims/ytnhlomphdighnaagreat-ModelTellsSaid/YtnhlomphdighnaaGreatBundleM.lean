/-
  Shared texts, one behind the other: Kmath, Ktv, Kcon1, Kcon4, Kcon5.
-/
import Derived.Test.YtnhlomphdighnaaGreatTm
import Derived.Test.YtnhlomphdighnaaGreatBundleH
import Derived.Test.YtnhlomphdighnaaGreatVdot
import Derived.Deep.RegionHeld3

namespace Go.Proofs.YtnhlomphdighnaaGreat.Num
set_option linter.unusedVariables false
def Bare (ts : List Tm) : Prop := ∀ c, 0 ≤ c → gsum ts c = 0
def Isw (r : Rat) : Prop := ((r.floor : Int) : Rat) = r
theorem mul_le {q a b : Rat} (h : a ≤ b) (hq : 0 < q) : q * a ≤ q * b := Rat.mul_le_mul_of_nonneg_left h (Rat.le_of_lt hq)
end Go.Proofs.YtnhlomphdighnaaGreat.Num


namespace Go.Proofs.YtnhlomphdighnaaGreat
open Go.RowKit Go.Proofs.YtnhlomphdighnaaGreat.Num
set_option linter.unusedVariables false
set_option linter.unusedSimpArgs false
set_option maxRecDepth 100000
structure Kx where
 s : Int
 v : Sl
 d : List Tx
 x : Rx
instance : Inhabited Kx := ⟨⟨0, (none, 0, 0), [], default⟩⟩
def ek (k : Kx) : List Value := [.int .i64 k.s, sv k.v, .bool k.x.s, sv k.x.u, sv k.x.t]
theorem ek_len (k : Kx) : (ek k).length = 5 := rfl
theorem ek_one (k : Kx) : ∀ u ∈ ek k, u.oneCell' = true := by
 intro u hu
 simp [ek] at hu
 rcases hu with rfl | rfl | rfl | rfl | rfl <;> rfl
abbrev kx (k : Kx) : Value := .agg #[.int .i64 k.s, sv k.v, .bool k.x.s, sv k.x.u, sv k.x.t]
abbrev kbox (k : Kx) : Obj := .cells #[.int .i64 k.s, sv k.v, .bool k.x.s, sv k.x.u, sv k.x.t] 46
def Kq (W : World) (g : Nat) (k : Kx) : Prop := W.heap[g]? = some (kbox k)
theorem Kq.new (w : World) (k : Kx) : Kq (w.alloc (kbox k)) w.heap.size k := heap_alloc_new w _
theorem Kq.lt {W : World} {g : Nat} {k : Kx} (h : Kq W g k) : g < W.heap.size := by unfold Kq at h; exact (Array.getElem?_eq_some_iff.1 h).1
theorem Kq.step {W W' : World} {g : Nat} {k : Kx} (h : Kq W g k) (hb : Below W.heap.size W W') : Kq W' g k := (hb.block g h.lt).trans h
theorem Kq.all {W : World} {g : Nat} {k : Kx} (h : Kq W g k) : W.cell? ⟨g, 0, none⟩ = some (.int .i64 k.s) ∧ W.cell? ⟨g, 1, none⟩ = some (sv k.v) ∧ W.cell? ⟨g, 2, none⟩ = some (.bool k.x.s) ∧ W.cell? ⟨g, 3, none⟩ = some (sv k.x.u) ∧ W.cell? ⟨g, 4, none⟩ = some (sv k.x.t) :=
 ⟨cell_of_row W g 0 _ _ _ h, cell_of_row W g 1 _ _ _ h, cell_of_row W g 2 _ _ _ h, cell_of_row W g 3 _ _ _ h, cell_of_row W g 4 _ _ _ h⟩
def Kc (W : World) (k : Kx) (L : Nat) : Prop := Tc W (sv k.v) k.d L ∧ Rc W (rx k.x) k.x.r L ∧ Fm (tms k.d)
theorem Kc.step {W W' : World} {k : Kx} {L : Nat} (h : Kc W k L) (hb : Below W.heap.size W W') : Kc W' k L := ⟨h.1.step hb, h.2.1.step hb, h.2.2⟩
def Kg (W : World) (B : Nat) (k : Kx) (L : Nat) : Prop := Tg W B (sv k.v) k.d L ∧ Rg W B k.x L ∧ Fm (tms k.d)
theorem Kg.step {W W' : World} {B : Nat} {k : Kx} {L : Nat} (h : Kg W B k L) (hb : Below W.heap.size W W') : Kg W' B k L := ⟨h.1.step hb, h.2.1.step hb, h.2.2⟩
theorem Kg.mono {W : World} {B B' : Nat} {k : Kx} {L : Nat} (h : Kg W B k L) (hB : B' ≤ B) : Kg W B' k L := ⟨h.1.mono hB, h.2.1.mono hB, h.2.2⟩
theorem Kg.kc {W : World} {B : Nat} {k : Kx} {L : Nat} (h : Kg W B k L) : Kc W k L := ⟨h.1.tc, h.2.1.1, h.2.2⟩
def eb1 (b : Bool) : List Value := [.bool b]
theorem eb1_len (b : Bool) : (eb1 b).length = 1 := rfl
def BRet (P : Prop) (e : Ending) : Prop := ∃ b : Bool, e = .returned (.bool b) ∧ (b = true ↔ P)
theorem cmp_le0 {a b : Rat} : decide (cmpR a b ≤ 0) = true ↔ a ≤ b := by rw [decide_eq_true_iff]; exact cmpR_le
theorem cmp_ge0 {a b : Rat} : 0 ≤ cmpR a b ↔ b ≤ a := by
 have h := cmpR_turn a b
 have h2 := cmpR_le (a := b) (b := a)
 rw [← h2]
 omega
theorem cmp_eq0 {a b : Rat} : cmpR a b = 0 ↔ a = b := by
 unfold cmpR
 split
 ·constructor
  ·intro h; omega
  ·intro h; subst h; exfalso; grind
 ·split
  ·constructor
   ·intro h; omega
   ·intro h; subst h; exfalso; grind
  ·constructor
   ·intro _; grind
   ·intro _; rfl
abbrev kblk : Obj := .cells #[.int .i64 0, .slice none 0 0, .bool false, .slice none 0 0, .slice none 0 0] 46
def Kz (W : World) (g : Nat) : Prop := W.heap[g]? = some kblk
theorem Kz.new (w : World) : Kz (w.alloc kblk) w.heap.size := heap_alloc_new w _
theorem Kz.lt {W : World} {g : Nat} (h : Kz W g) : g < W.heap.size := by unfold Kz at h; exact (Array.getElem?_eq_some_iff.1 h).1
theorem Kz.step {W W' : World} {g : Nat} (h : Kz W g) (hb : Below W.heap.size W W') : Kz W' g := (hb.block g h.lt).trans h
theorem Kz.all {W : World} {g : Nat} (h : Kz W g) : W.cell? ⟨g, 0, none⟩ = some (.int .i64 0) ∧ W.cell? ⟨g, 1, none⟩ = some (.slice none 0 0) ∧ W.cell? ⟨g, 2, none⟩ = some (.bool false) ∧ W.cell? ⟨g, 3, none⟩ = some (.slice none 0 0) ∧ W.cell? ⟨g, 4, none⟩ = some (.slice none 0 0) :=
 ⟨cell_of_row W g 0 _ _ _ h, cell_of_row W g 1 _ _ _ h, cell_of_row W g 2 _ _ _ h, cell_of_row W g 3 _ _ _ h, cell_of_row W g 4 _ _ _ h⟩
theorem Kz.fz {W : World} {g : Nat} (h : Kz W g) (j : Nat) : W.frozen? ⟨g, j, none⟩ = false := frozen_of_row W g j _ _ h
def Kb (W : World) (g : Nat) : Prop := ∃ cs, W.heap[g]? = some (.cells cs 46 (0, 0))
theorem Kz.kb {W : World} {g : Nat} (h : Kz W g) : Kb W g := ⟨_, h⟩
theorem Kb.ot {W : World} {g : Nat} (h : Kb W g) : Ot W g := by
 obtain ⟨cs, h⟩ := h
 exact ⟨cs, _, _, h, by decide⟩
theorem Kb.ne {W : World} {g B : Nat} {v : Value} {d : List Tx} (h : Kb W g) (ho : Ow 51 et 4 W B v d) : v.ownBlock = none ∨ v.ownBlock ≠ some g := by
 obtain ⟨cs, h⟩ := h
 rcases ho.form with ⟨rfl, _⟩ | ⟨g', cap, cur, rfl, hB, hlt, hh, r⟩
 ·exact .inl rfl
 ·refine .inr (fun e => ?_)
  have e : g' = g := by simpa [Value.ownBlock] using e
  subst e
  rw [h] at hh
  injection hh with hh
  injection hh with _ e2 _
  exact absurd e2 (by decide)
theorem Tg.grownK {W W' : World} {B L g : Nat} {v : Value} {d : List Tx} (h : Tg W B v d L) (hg : W.grownBy W' (some g)) (hk : Kb W g) : Tg W' B v d L :=
 ⟨h.1.kept hg (hk.ne h.1), fun x hx => (h.2 x hx).grownT hg (fun g' e => by cases e; exact hk.ot)⟩
theorem Rg.grownK {W W' : World} {B L g : Nat} {x : Rx} (h : Rg W B x L) (hg : W.grownBy W' (some g)) (hk : Kb W g) : Rg W' B x L := h.grownT hg (fun g' e => by cases e; exact hk.ot)
theorem Kg.grownK {W W' : World} {B L g : Nat} {k : Kx} (h : Kg W B k L) (hg : W.grownBy W' (some g)) (hk : Kb W g) : Kg W' B k L := ⟨h.1.grownK hg hk, h.2.1.grownK hg hk, h.2.2⟩
theorem only_put5 (W : World) (g : Nat) (a b c d e : Value) : W.grownBy (((((W.setCell ⟨g, 0, none⟩ a).setCell ⟨g, 1, none⟩ b).setCell ⟨g, 2, none⟩ c).setCell ⟨g, 3, none⟩ d).setCell ⟨g, 4, none⟩ e) (some g) :=
 only_set (p := ⟨g, 4, none⟩) (only_set (p := ⟨g, 3, none⟩) (only_put3 W g a b c) rfl d) rfl e
theorem below_put5 {B : Nat} {w W : World} {g : Nat} (h : Below B w W) (hg : B ≤ g) (a b c d e : Value) : Below B w (((((W.setCell ⟨g, 0, none⟩ a).setCell ⟨g, 1, none⟩ b).setCell ⟨g, 2, none⟩ c).setCell ⟨g, 3, none⟩ d).setCell ⟨g, 4, none⟩ e) :=
 ((((h.setCell hg a).setCell hg b).setCell hg c).setCell hg d).setCell hg e
theorem put5_heap {W : World} {g : Nat} {cs : Array Value} (h : W.heap[g]? = some (.cells cs 46 (0, 0))) (hs : cs.size = 5) (a b c d e : Value) :
  (((((W.setCell ⟨g, 0, none⟩ a).setCell ⟨g, 1, none⟩ b).setCell ⟨g, 2, none⟩ c).setCell ⟨g, 3, none⟩ d).setCell ⟨g, 4, none⟩ e).heap[g]? = some (.cells #[a, b, c, d, e] 46 (0, 0)) := by
 obtain ⟨l⟩ := cs
 match l, hs with
 | [c0, c1, c2, c3, c4], _ => exact heap_setCell_same _ g 4 _ _ e (heap_setCell_same _ g 3 _ _ d (heap_setCell_same _ g 2 _ _ c (heap_setCell_same _ g 1 _ _ b (heap_setCell_same W g 0 _ _ a h))))
theorem kret {fn : Func} {p : Tmp} (h : fn.results = #[.cell p 46]) (tmps : Array Value) (w : World) (g : Nat) (cs : Array Value) (hs : cs.size = 5)
  (hp : tmps.getD p undef = .pointer (some ⟨g, 0, none⟩)) (hg : w.heap[g]? = some (.cells cs 46 (0, 0))) : (results fn tmps).run Tryz.prog w = .ok (.agg cs) w :=
 results_cell_row h tmps w g 46 cs (0, 0) _ hp hg Tryz.underlying46 rfl (by rw [hs]; kernel_rfl)
theorem kg_put {w0 w : World} {k : Kx} {L g : Nat} (h : Kg w w0.heap.size k L) (hz : Kz w g) (hg0 : w0.heap.size ≤ g) (hb : Below w0.heap.size w0 w) :
  (w.cell? ⟨g, 0, none⟩ = some (.int .i64 0) ∧ w.cell? ⟨g, 1, none⟩ = some (.slice none 0 0) ∧ w.cell? ⟨g, 2, none⟩ = some (.bool false) ∧ w.cell? ⟨g, 3, none⟩ = some (.slice none 0 0) ∧ w.cell? ⟨g, 4, none⟩ = some (.slice none 0 0)) ∧
   (w.frozen? ⟨g, 0, none⟩ = false ∧ w.frozen? ⟨g, 1, none⟩ = false ∧ w.frozen? ⟨g, 2, none⟩ = false ∧ w.frozen? ⟨g, 3, none⟩ = false ∧ w.frozen? ⟨g, 4, none⟩ = false) ∧
   (((((w.setCell ⟨g, 0, none⟩ (.int .i64 k.s)).setCell ⟨g, 1, none⟩ (sv k.v)).setCell ⟨g, 2, none⟩ (.bool k.x.s)).setCell ⟨g, 3, none⟩ (sv k.x.u)).setCell ⟨g, 4, none⟩ (sv k.x.t)).heap[g]? = some (.cells #[.int .i64 k.s, sv k.v, .bool k.x.s, sv k.x.u, sv k.x.t] 46 (0, 0)) ∧
    Kg (((((w.setCell ⟨g, 0, none⟩ (.int .i64 k.s)).setCell ⟨g, 1, none⟩ (sv k.v)).setCell ⟨g, 2, none⟩ (.bool k.x.s)).setCell ⟨g, 3, none⟩ (sv k.x.u)).setCell ⟨g, 4, none⟩ (sv k.x.t)) w0.heap.size k L ∧
    Below w0.heap.size w0 (((((w.setCell ⟨g, 0, none⟩ (.int .i64 k.s)).setCell ⟨g, 1, none⟩ (sv k.v)).setCell ⟨g, 2, none⟩ (.bool k.x.s)).setCell ⟨g, 3, none⟩ (sv k.x.u)).setCell ⟨g, 4, none⟩ (sv k.x.t)) :=
 ⟨hz.all, ⟨hz.fz 0, hz.fz 1, hz.fz 2, hz.fz 3, hz.fz 4⟩, put5_heap hz rfl _ _ _ _ _, h.grownK (only_put5 w g _ _ _ _ _) hz.kb, below_put5 hb hg0 _ _ _ _ _⟩

end Go.Proofs.YtnhlomphdighnaaGreat
