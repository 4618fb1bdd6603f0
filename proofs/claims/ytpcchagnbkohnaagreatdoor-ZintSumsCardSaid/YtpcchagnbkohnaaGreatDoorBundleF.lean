/-
  Shared texts, one behind the other: Lat.
-/
import Derived.Test.YtpcchagnbkohnaaGreatDoorBundleE
import Derived.Test.YtpcchagnbkohnaaGreatDoorBundleD
import Derived.Deep.RegionHeld3

/-
  A region that draws its order and makes two variables among its calls: what is known at each of its stages, whichever way it came there.
-/

namespace Go.Proofs.YtpcchagnbkohnaaGreatDoor
open Go.RowKit Go.Proofs.YtpcchagnbkohnaaGreatDoor.Num
set_option linter.unusedVariables false
set_option maxRecDepth 100000

/-- What follows from a stage is shown once, and then used on every way that leads there. -/
theorem wpAnyH_with {P : Program} {md : Region.Mode} {ops : Array Oper} {Q : Exit → Act → World → Prop} {S : World → Prop} {fuel : Nat} {listed : Array Bool} {a : Act} {w : World} (fuel' : Nat) (listed' : Array Bool) (R : Act → World → Prop)
    (h1 : ∀ a w, R a w → wpAnyH P md ops Q S fuel' listed' a w) (h2 : Hid (∀ a w, R a w → wpAnyH P md ops Q S fuel' listed' a w) → wpAnyH P md ops Q S fuel listed a w) : wpAnyH P md ops Q S fuel listed a w := h2 (hide h1)

theorem Za.zset {w : World} {v : Value} {z : Int} {L g : Nat} (h : Za w v z L) (hz : Zb w g) (a b : Value) : Za ((w.setCell ⟨g, 0, none⟩ a).setCell ⟨g, 1, none⟩ b) v z L := by
  obtain ⟨s, u, x, e, hu, hx⟩ := h
  exact ⟨s, u, x, e, hu.zset hz a b, hx⟩
theorem Zb.lt {w : World} {g : Nat} (h : Zb w g) : g < w.heap.size := by have h1 := h; unfold Zb at h1; exact (Array.getElem?_eq_some_iff.1 h1).1
theorem Bx.far {w : World} {g k : Nat} {s : Bool} {A : Option Addr} {n c : Nat} (h : Bx w g s A n c) (hne : g ≠ k) (a b : Value) : Bx ((w.setCell ⟨k, 0, none⟩ a).setCell ⟨k, 1, none⟩ b) g s A n c :=
  ⟨cell_zset h.1 hne a b, cell_zset h.2 hne a b⟩
theorem Zb.bx {w : World} {g : Nat} (h : Zb w g) (s : Bool) (A : Option Addr) (n c : Nat) : Bx ((w.setCell ⟨g, 0, none⟩ (.bool s)).setCell ⟨g, 1, none⟩ (.slice A n c)) g s A n c :=
  ⟨cell_of_row _ g 0 _ _ _ (h.set _ _), cell_of_row _ g 1 _ _ _ (h.set _ _)⟩

/-- Kept by all that is new, and by what is stored into such a variable. -/
def Firm (F : World → Prop) : Prop := (∀ W W', F W → Below W.heap.size W W' → F W') ∧ ∀ W g a b, F W → Zb W g → F ((W.setCell ⟨g, 0, none⟩ a).setCell ⟨g, 1, none⟩ b)
theorem Firm.yes : Firm (fun _ => True) := ⟨fun _ _ _ _ => trivial, fun _ _ _ _ _ _ => trivial⟩
theorem Firm.za (v : Value) (z : Int) (L : Nat) : Firm (fun W => Za W v z L) := ⟨fun _ _ h hb => h.step hb, fun _ _ a b h hz => h.zset hz a b⟩
theorem Firm.and {F G : World → Prop} (hf : Firm F) (hg : Firm G) : Firm (fun W => F W ∧ G W) :=
  ⟨fun W W' h hb => ⟨hf.1 W W' h.1 hb, hg.1 W W' h.2 hb⟩, fun W g a b h hz => ⟨hf.2 W g a b h.1 hz, hg.2 W g a b h.2 hz⟩⟩

/-- A stage: the world is the first one and what is new; of the two variables A, B those that are made are as they were made. -/
def St (n0 : Nat) (W0 W : World) (A B : Bool) (gA gB : Nat) (F : World → Prop) : Prop :=
  Below n0 W0 W ∧ n0 ≤ W.heap.size ∧ F W ∧ (A = true → Zb W gA ∧ n0 ≤ gA) ∧ (B = true → Zb W gB ∧ n0 ≤ gB) ∧ (A = true → B = true → gA ≠ gB)
theorem St.start (W : World) : St W.heap.size W W false false 0 0 (fun _ => True) := ⟨Below.refl _ _, Nat.le_refl _, trivial, (fun h => by cases h), (fun h => by cases h), (fun h => by cases h)⟩
theorem St.call {n0 : Nat} {W0 W W' : World} {A B : Bool} {gA gB : Nat} {F G : World → Prop} (h : St n0 W0 W A B gA gB F) (hb : Below W.heap.size W W') (hf : Firm F) (hg : G W') : St n0 W0 W' A B gA gB (fun W => F W ∧ G W) := by
  obtain ⟨h1, h2, h3, h4, h5, h6⟩ := h
  exact ⟨h1.trans (hb.mono h2), Nat.le_trans h2 hb.size, ⟨hf.1 _ _ h3 hb, hg⟩, fun e => ⟨(h4 e).1.step (h4 e).1.lt hb, (h4 e).2⟩, fun e => ⟨(h5 e).1.step (h5 e).1.lt hb, (h5 e).2⟩, h6⟩
theorem St.makeA {n0 : Nat} {W0 W : World} {B : Bool} {g gB : Nat} {F : World → Prop} (h : St n0 W0 W false B g gB F) (hf : Firm F) : St n0 W0 (W.alloc zblk) true B W.heap.size gB F := by
  obtain ⟨h1, h2, h3, h4, h5, h6⟩ := h
  have hb : Below W.heap.size W (W.alloc zblk) := (Below.refl _ _).alloc (Nat.le_refl _) _
  exact ⟨h1.alloc h2 _, Nat.le_trans h2 hb.size, hf.1 _ _ h3 hb, fun _ => ⟨Zb.new W, h2⟩, fun e => ⟨(h5 e).1.step (h5 e).1.lt hb, (h5 e).2⟩, fun _ e => Nat.ne_of_gt (h5 e).1.lt⟩
theorem St.makeB {n0 : Nat} {W0 W : World} {A : Bool} {g gA : Nat} {F : World → Prop} (h : St n0 W0 W A false gA g F) (hf : Firm F) : St n0 W0 (W.alloc zblk) A true gA W.heap.size F := by
  obtain ⟨h1, h2, h3, h4, h5, h6⟩ := h
  have hb : Below W.heap.size W (W.alloc zblk) := (Below.refl _ _).alloc (Nat.le_refl _) _
  exact ⟨h1.alloc h2 _, Nat.le_trans h2 hb.size, hf.1 _ _ h3 hb, fun e => ⟨(h4 e).1.step (h4 e).1.lt hb, (h4 e).2⟩, fun _ => ⟨Zb.new W, h2⟩, fun e _ => Nat.ne_of_lt (h4 e).1.lt⟩
/-- Behind the first store. -/
def St1 (n0 : Nat) (W0 W : World) (gA gB : Nat) (s : Bool) (A : Option Addr) (n c : Nat) (F : World → Prop) : Prop :=
  Below n0 W0 W ∧ n0 ≤ W.heap.size ∧ F W ∧ Bx W gA s A n c ∧ Zb W gB ∧ n0 ≤ gB ∧ gA ≠ gB ∧ n0 ≤ gA
theorem St.putA {n0 : Nat} {W0 W : World} {gA gB : Nat} {F : World → Prop} (h : St n0 W0 W true true gA gB F) (hf : Firm F) (s : Bool) (A : Option Addr) (n c : Nat) :
    W.cell? ⟨gA, 0, none⟩ = some (.bool false) ∧ W.cell? ⟨gA, 1, none⟩ = some (.slice none 0 0) ∧ W.frozen? ⟨gA, 0, none⟩ = false ∧ W.frozen? ⟨gA, 1, none⟩ = false ∧
      Hid (St1 n0 W0 ((W.setCell ⟨gA, 0, none⟩ (.bool s)).setCell ⟨gA, 1, none⟩ (.slice A n c)) gA gB s A n c F) := by
  obtain ⟨h1, h2, h3, h4, h5, h6⟩ := h
  obtain ⟨zA, lA⟩ := h4 rfl
  obtain ⟨zB, lB⟩ := h5 rfl
  have hne := h6 rfl rfl
  exact ⟨zA.c0, zA.c1, zA.fz 0, zA.fz 1, hide ⟨(h1.setCell lA _).setCell lA _, by rw [size_zset]; exact h2, hf.2 _ _ _ _ h3 zA, zA.bx s A n c, zB.far (Ne.symm hne) _ _, lB, hne, lA⟩⟩
/-- Behind both stores. -/
def St2 (n0 : Nat) (W0 W : World) (gA gB : Nat) (s t : Bool) (A D : Option Addr) (n c m d : Nat) (F : World → Prop) : Prop :=
  Below n0 W0 W ∧ n0 ≤ W.heap.size ∧ F W ∧ Bx W gA s A n c ∧ Bx W gB t D m d ∧ n0 ≤ gA ∧ n0 ≤ gB ∧ gA ≠ gB
theorem St1.putB {n0 : Nat} {W0 W : World} {gA gB : Nat} {s : Bool} {A : Option Addr} {n c : Nat} {F : World → Prop} (h : St1 n0 W0 W gA gB s A n c F) (hf : Firm F) (t : Bool) (D : Option Addr) (m d : Nat) :
    W.cell? ⟨gB, 0, none⟩ = some (.bool false) ∧ W.cell? ⟨gB, 1, none⟩ = some (.slice none 0 0) ∧ W.frozen? ⟨gB, 0, none⟩ = false ∧ W.frozen? ⟨gB, 1, none⟩ = false ∧
      Hid (St2 n0 W0 ((W.setCell ⟨gB, 0, none⟩ (.bool t)).setCell ⟨gB, 1, none⟩ (.slice D m d)) gA gB s t A D n c m d F) := by
  obtain ⟨h1, h2, h3, h4, zB, lB, hne, lA⟩ := h
  exact ⟨zB.c0, zB.c1, zB.fz 0, zB.fz 1, hide ⟨(h1.setCell lB _).setCell lB _, by rw [size_zset]; exact h2, hf.2 _ _ _ _ h3 zB, h4.far hne _ _, zB.bx t D m d, lA, lB, hne⟩⟩
/-- Three results, each in its block. -/
theorem put3 {n0 : Nat} {W0 W : World} {g1 g2 g3 : Nat} {F : World → Prop} (hb : Below n0 W0 W) (z1 : Zb W g1) (z2 : Zb W g2) (z3 : Zb W g3) (l1 : n0 ≤ g1) (l2 : n0 ≤ g2) (l3 : n0 ≤ g3) (h12 : g1 ≠ g2) (h13 : g1 ≠ g3) (h23 : g2 ≠ g3) (hf : Firm F) (hF : F W) (s1 s2 s3 : Value) (u1 u2 u3 : Value) :
    (((((((W.setCell ⟨g1, 0, none⟩ s1).setCell ⟨g1, 1, none⟩ u1).setCell ⟨g2, 0, none⟩ s2).setCell ⟨g2, 1, none⟩ u2).setCell ⟨g3, 0, none⟩ s3).setCell ⟨g3, 1, none⟩ u3).heap[g1]? = some (.cells #[s1, u1] 24 (0, 0)) ∧
    ((((((W.setCell ⟨g1, 0, none⟩ s1).setCell ⟨g1, 1, none⟩ u1).setCell ⟨g2, 0, none⟩ s2).setCell ⟨g2, 1, none⟩ u2).setCell ⟨g3, 0, none⟩ s3).setCell ⟨g3, 1, none⟩ u3).heap[g2]? = some (.cells #[s2, u2] 24 (0, 0)) ∧
    ((((((W.setCell ⟨g1, 0, none⟩ s1).setCell ⟨g1, 1, none⟩ u1).setCell ⟨g2, 0, none⟩ s2).setCell ⟨g2, 1, none⟩ u2).setCell ⟨g3, 0, none⟩ s3).setCell ⟨g3, 1, none⟩ u3).heap[g3]? = some (.cells #[s3, u3] 24 (0, 0)) ∧
    F ((((((W.setCell ⟨g1, 0, none⟩ s1).setCell ⟨g1, 1, none⟩ u1).setCell ⟨g2, 0, none⟩ s2).setCell ⟨g2, 1, none⟩ u2).setCell ⟨g3, 0, none⟩ s3).setCell ⟨g3, 1, none⟩ u3) ∧
    Below n0 W0 ((((((W.setCell ⟨g1, 0, none⟩ s1).setCell ⟨g1, 1, none⟩ u1).setCell ⟨g2, 0, none⟩ s2).setCell ⟨g2, 1, none⟩ u2).setCell ⟨g3, 0, none⟩ s3).setCell ⟨g3, 1, none⟩ u3)) := by
  have y2 := z2.far (Ne.symm h12) s1 u1
  have y3 := (z3.far (Ne.symm h13) s1 u1).far (Ne.symm h23) s2 u2
  refine ⟨heap_far (heap_far (z1.set _ _) h12 _ _) h13 _ _, heap_far (y2.set _ _) h23 _ _, y3.set _ _, hf.2 _ _ _ _ (hf.2 _ _ _ _ (hf.2 _ _ _ _ hF z1) y2) y3, ?_⟩
  exact (((((hb.setCell l1 _).setCell l1 _).setCell l2 _).setCell l2 _).setCell l3 _).setCell l3 _
theorem zret333 {fn : Func} {p q r : Tmp} (h : fn.results = #[.cell p 24, .cell q 24, .cell r 24]) (tmps : Array Value) (w : World) (g1 g2 g3 : Nat) (cs1 cs2 cs3 : Array Value) (hs1 : cs1.size = 2) (hs2 : cs2.size = 2) (hs3 : cs3.size = 2)
    (hp : tmps.getD p undef = .pointer (some ⟨g1, 0, none⟩)) (hq : tmps.getD q undef = .pointer (some ⟨g2, 0, none⟩)) (hr : tmps.getD r undef = .pointer (some ⟨g3, 0, none⟩)) (h1 : w.heap[g1]? = some (.cells cs1 24 (0, 0))) (h2 : w.heap[g2]? = some (.cells cs2 24 (0, 0))) (h3 : w.heap[g3]? = some (.cells cs3 24 (0, 0))) :
    (results fn tmps).run Tryz.prog w = .ok (.tuple #[.agg cs1, .agg cs2, .agg cs3]) w := by
  have hp' : tmps[p]?.getD undef = .pointer (some ⟨g1, 0, none⟩) := by simpa using hp
  have hq' : tmps[q]?.getD undef = .pointer (some ⟨g2, 0, none⟩) := by simpa using hq
  have hr' : tmps[r]?.getD undef = .pointer (some ⟨g3, 0, none⟩) := by simpa using hr
  simp only [results, h]
  simp [Sem.run_bind, Result.andThen, hp', hq', hr', asAddr, run_loadVar_row (P := Tryz.prog) w g1 24 24 cs1 (0, 0) _ h1 Tryz.underlying24 rfl (by rw [hs1]; kernel_rfl), run_loadVar_row (P := Tryz.prog) w g2 24 24 cs2 (0, 0) _ h2 Tryz.underlying24 rfl (by rw [hs2]; kernel_rfl), run_loadVar_row (P := Tryz.prog) w g3 24 24 cs3 (0, 0) _ h3 Tryz.underlying24 rfl (by rw [hs3]; kernel_rfl)]
end Go.Proofs.YtpcchagnbkohnaaGreatDoor
