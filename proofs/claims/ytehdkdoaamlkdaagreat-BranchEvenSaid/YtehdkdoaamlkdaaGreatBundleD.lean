/-
  Shared texts, one behind the other: Zint1, Zint2, Zint3, Zint4, Zint5, Zint8, Zint9, Zint10.
-/
import Derived.Test.YtehdkdoaamlkdaaGreatBundleB
import Derived.Test.YtehdkdoaamlkdaaGreatBundleA
import Derived.Test.YtehdkdoaamlkdaaGreatBundleC
import Derived.Lib.SmallJoins

namespace Go.Proofs.YtehdkdoaamlkdaaGreat
open Go.RowKit Go.Proofs.YtehdkdoaamlkdaaGreat.Num
set_option linter.unusedVariables false
set_option maxRecDepth 100000
abbrev zv (s : Bool) (u : Value) : Value := .agg #[.bool s, u]
theorem zret {fn : Func} {p : Tmp} (h : fn.results = #[.cell p 41]) (tmps : Array Value) (w : World) (g : Nat) (cs : Array Value) (hs : cs.size = 2)
  (hp : tmps.getD p undef = .pointer (some ⟨g, 0, none⟩)) (hg : w.heap[g]? = some (.cells cs 41 (0, 0))) : (results fn tmps).run Tryz.prog w = .ok (.agg cs) w :=
 results_cell_row h tmps w g 41 cs (0, 0) _ hp hg Tryz.underlying41 rfl (by rw [hs]; kernel_rfl)
theorem signed_any (s : Bool) (A : Option Addr) (n c : Nat) (w : World) :
  Calls Tryz.prog 78 #[.bool s, .slice A n c] w fun e w' => e = .returned (zv (s && decide (0 < n)) (.slice A n c)) ∧ Below w.heap.size w w' := by
 cases s
 ·go_enter Tryz.func78, Tryz.ntmps78
  go_wp2_with fail
  refine bodyPost_ret (zret rfl _ _ w.heap.size #[.bool false, .slice A n c] rfl rfl (heap_alloc_new _ _)) rfl ⟨rfl, (Below.refl _ _).alloc (Nat.le_refl _) _⟩
 ·by_cases h0 : 0 < n
  ·have e : decide (0 < n) = true := decide_eq_true h0
   rw [e]
   have t1 : decide ((0 : Int) < (n : Int)) = true := decide_eq_true (by omega)
   go_enter Tryz.func78, Tryz.ntmps78
   go_wp2_with fail
   refine bodyPost_ret (zret rfl _ _ w.heap.size #[.bool true, .slice A n c] rfl rfl (heap_alloc_new _ _)) rfl ⟨rfl, (Below.refl _ _).alloc (Nat.le_refl _) _⟩
  ·obtain rfl : n = 0 := by omega
   go_enter Tryz.func78, Tryz.ntmps78
   go_wp2_with fail
   refine bodyPost_ret (zret rfl _ _ w.heap.size #[.bool false, .slice A 0 c] rfl rfl (heap_alloc_new _ _)) rfl ⟨rfl, (Below.refl _ _).alloc (Nat.le_refl _) _⟩
def Zc (w : World) (v : Value) (s : Bool) (x L : Nat) : Prop := ∃ u, v = zv (s && decide (x ≠ 0)) u ∧ Cw w u x L
theorem signed_c {w : World} {s : Bool} {u : Value} {x L : Nat} (h : Cw w u x L) :
  Calls Tryz.prog 78 #[.bool s, u] w fun e w' => e = .returned (zv (s && decide (x ≠ 0)) u) ∧ Below w.heap.size w w' := by
 obtain ⟨A, c, rfl, h1, h2⟩ := h
 refine (signed_any s A _ c w).mono fun e w' ⟨he, hb⟩ => ⟨?_, hb⟩
 rw [he]
 have e1 : decide (0 < (cn Q x).length) = decide (x ≠ 0) := by
  by_cases hx : x = 0
  ·subst hx; rw [cn_zero]; rfl
  ·have : 0 < (cn Q x).length := List.length_pos_iff.2 (fun h => hx ((cn_eq_nil Q_two).1 h))
   rw [decide_eq_true this, decide_eq_true hx]
 rw [e1]
abbrev zblk : Obj := .cells #[.bool false, .slice none 0 0] 41
def Zb (w : World) (g : Nat) : Prop := w.heap[g]? = some zblk
theorem Zb.new (w : World) : Zb (w.alloc zblk) w.heap.size := heap_alloc_new _ _
theorem Zb.step {w w' : World} {g : Nat} (h : Zb w g) (hg : g < w.heap.size) (hb : Below w.heap.size w w') : Zb w' g := (hb.block g hg).trans h
theorem Zb.c0 {w : World} {g : Nat} (h : Zb w g) : w.cell? ⟨g, 0, none⟩ = some (.bool false) := cell_of_row w g 0 _ _ _ h
theorem Zb.c1 {w : World} {g : Nat} (h : Zb w g) : w.cell? ⟨g, 1, none⟩ = some (.slice none 0 0) := cell_of_row w g 1 _ _ _ h
theorem Zb.fz {w : World} {g : Nat} (h : Zb w g) (j : Nat) : w.frozen? ⟨g, j, none⟩ = false := frozen_of_row w g j _ _ h
theorem Zb.set {w : World} {g : Nat} (h : Zb w g) (a b : Value) : ((w.setCell ⟨g, 0, none⟩ a).setCell ⟨g, 1, none⟩ b).heap[g]? = some (.cells #[a, b] 41 (0, 0)) :=
 heap_setCell_same _ g 1 _ _ b (heap_setCell_same w g 0 _ _ a h)
theorem Rd.zset {w : World} {B n g : Nat} {A : Option Addr} {xs : List Nat} (h : Rd .u64 w B A n xs) (hz : Zb w g) (a b : Value) : Rd .u64 ((w.setCell ⟨g, 0, none⟩ a).setCell ⟨g, 1, none⟩ b) B A n xs := by
 refine ⟨h.1, fun hn => ?_⟩
 obtain ⟨bb, off, e, hb, hc⟩ := h.2 hn
 refine ⟨bb, off, e, hb, fun j hj => ?_⟩
 have hne : bb ≠ g := by
  rintro rfl
  have h1 := hc 0 hn
  have hz' : w.heap[bb]? = some (.cells #[.bool false, .slice none 0 0] 41 (0, 0)) := hz
  rw [Nat.add_zero, cell_of_row w bb off _ _ _ hz'] at h1
  match off, h1 with
  | 0, h1 => simp at h1
  | 1, h1 => simp at h1
  | (k + 2), h1 => simp at h1
 rw [World.cell?_setCell_other _ _ _ _ (by intro h2; apply hne; injection h2 with h3; exact h3.symm), World.cell?_setCell_other _ _ _ _ (by intro h2; apply hne; injection h2 with h3; exact h3.symm)]
 exact hc j hj
theorem size_zset (w : World) (g : Nat) (a b : Value) : ((w.setCell ⟨g, 0, none⟩ a).setCell ⟨g, 1, none⟩ b).heap.size = w.heap.size := by simp [World.setCell]
theorem Cw.zset {w : World} {v : Value} {x L g : Nat} (h : Cw w v x L) (hz : Zb w g) (a b : Value) : Cw ((w.setCell ⟨g, 0, none⟩ a).setCell ⟨g, 1, none⟩ b) v x L := by
 obtain ⟨A, c, e, h1, h2⟩ := h
 exact ⟨A, c, e, by rw [size_zset]; exact h1.zset hz a b, h2⟩
theorem Nw.zset {w : World} {v : Value} {x L g : Nat} (h : Nw w v x L) (hz : Zb w g) (a b : Value) : Nw ((w.setCell ⟨g, 0, none⟩ a).setCell ⟨g, 1, none⟩ b) v x L := by
 obtain ⟨A, n, c, xs, e, h1, h2⟩ := h
 exact ⟨A, n, c, xs, e, by rw [size_zset]; exact h1.zset hz a b, h2⟩
def ZNew (w : World) (s : Bool) (x L : Nat) (e : Ending) (w' : World) : Prop := ∃ v, e = .returned v ∧ Zc w' v s x L ∧ Below w.heap.size w w'
theorem signed_fit {w0 w : World} {s : Bool} {u : Value} {x L g : Nat} (h : Cw w u x L) (hz : Zb w g) (hg0 : w0.heap.size ≤ g) (hb : Below w0.heap.size w0 w) :
  ∃ sg A n c, u = .slice A n c ∧ (s && decide (x ≠ 0)) = sg ∧ Calls Tryz.prog 78 #[.bool s, .slice A n c] w fun e w' => e = .returned (zv sg (.slice A n c)) ∧ Below w.heap.size w w' ∧
   w'.cell? ⟨g, 0, none⟩ = some (.bool false) ∧ w'.cell? ⟨g, 1, none⟩ = some (.slice none 0 0) ∧ w'.frozen? ⟨g, 0, none⟩ = false ∧ w'.frozen? ⟨g, 1, none⟩ = false ∧
   (((w'.setCell ⟨g, 0, none⟩ (.bool sg)).setCell ⟨g, 1, none⟩ (.slice A n c)).heap[g]? = some (.cells #[.bool sg, .slice A n c] 41 (0, 0)) ∧
    ZNew w0 s x L (.returned (zv sg (.slice A n c))) ((w'.setCell ⟨g, 0, none⟩ (.bool sg)).setCell ⟨g, 1, none⟩ (.slice A n c))) := by
 have hs := signed_c (s := s) h
 obtain ⟨A, c, rfl, -⟩ := id h
 have hlt : g < w.heap.size := by have h1 := hz; unfold Zb at h1; exact (Array.getElem?_eq_some_iff.1 h1).1
 refine ⟨_, A, _, c, rfl, rfl, hs.mono fun e w' ⟨he, hb2⟩ => ?_⟩
 have hz2 := hz.step hlt hb2
 have hb3 := hb.trans (hb2.mono hb.size)
 exact ⟨he, hb2, hz2.c0, hz2.c1, hz2.fz 0, hz2.fz 1, hz2.set _ _, _, rfl, ⟨_, rfl, (h.step hb2).zset hz2 _ _⟩, (hb3.setCell hg0 _).setCell hg0 _⟩
set_option maxHeartbeats 1000000 in
theorem make_any {w : World} {s : Bool} {u : Value} {x L : Nat} (h : Nw w u x L) (hL : L ≤ 17592186044000) :
  Calls Tryz.prog 96 #[.bool s, u] w (ZNew w s x L) := by
 have a0 : Below w.heap.size w (w.alloc zblk) := (Below.refl _ _).alloc (Nat.le_refl _) _
 have H := hide (h.step a0)
 have HA := hide a0
 clear h a0
 go_enter Tryz.func96, Tryz.ntmps96
 go_wp2_with fail
 refine (ntrim_n H.out (by omega)).mono ?_
 rintro e w1 ⟨r, rfl, -, c1, b1⟩
 obtain ⟨sg, A, n, c, rfl, hsg, hcall⟩ := signed_fit (w0 := w) (s := s) c1 ((Zb.new w).step (by simp) b1) (Nat.le_refl _) (HA.out.trans (b1.mono HA.out.size))
 have HC := hide hcall
 clear c1 b1 H HA hcall hsg
 go_wp2_with fail
 refine HC.out.mono ?_
 rintro e w2 ⟨rfl, -, k0, k1, f0, f1, fin⟩
 have F := hide fin
 clear fin HC
 go_wp2_with fail
 exact bodyPost_ret (zret rfl _ _ w.heap.size #[.bool sg, .slice A n c] rfl rfl F.out.1) rfl F.out.2
abbrev zbox (s : Bool) (u : Value) : Obj := .cells #[.bool s, u] 41
theorem Nw.slice {w : World} {u : Value} {x L : Nat} (h : Nw w u x L) : ∃ A n c, u = .slice A n c := by
 obtain ⟨A, n, c, xs, e, _⟩ := h
 exact ⟨A, n, c, e⟩
def zi (s : Bool) (x : Nat) : Int := if s then -(x : Int) else (x : Int)
def zsgn (s : Bool) (x : Nat) : Int := if x = 0 then 0 else if s then -1 else 1
set_option maxHeartbeats 1000000 in
theorem sign_any {w : World} {s : Bool} {u : Value} {x L : Nat} (h : Nw w u x L) (hL : L ≤ 17592186044000) :
  Calls Tryz.prog 63 #[zv s u] w fun e w' => e = .returned (.int .i64 (zsgn s x)) ∧ Below w.heap.size w w' := by
 obtain ⟨A, n, c, rfl⟩ := h.slice
 have a1 : Below w.heap.size w (w.alloc (zbox s (.slice A n c))) := (Below.refl _ _).alloc (Nat.le_refl _) _
 obtain ⟨b, hb⟩ := isBits_ex x
 have H := hide (nbits_s (h.step a1) hb (by omega))
 have HA := hide a1
 have hb0 : x = 0 ↔ b = 0 := by
  constructor
  ·intro h0; subst h0
   exact hb.one IsBits.zero
  ·intro h0; subst h0
   have := hb.1
   omega
 clear h a1
 by_cases hx : x = 0
 ·obtain rfl : b = 0 := hb0.1 hx
  have e : zsgn s x = 0 := by unfold zsgn; rw [if_pos hx]
  rw [e]
  clear hb hb0
  go_enter Tryz.func63, Tryz.ntmps63
  go_wp2_with (go_at_call 74; refine H.out.mono ?_; rintro e w' ⟨rfl, rfl⟩)
  go_ret
  exact ⟨rfl, HA.out⟩
 ·have hb1 : b ≠ 0 := fun h0 => hx (hb0.2 h0)
  have t1 : ((b : Int) == 0) = false := beq_eq_false_iff_ne.2 (by omega)
  clear hb hb0
  cases s
  ·have e : zsgn false x = 1 := by unfold zsgn; rw [if_neg hx]; rfl
   rw [e]
   go_enter Tryz.func63, Tryz.ntmps63
   go_wp2_with (go_at_call 74; refine H.out.mono ?_; rintro e w' ⟨rfl, rfl⟩)
   go_ret
   exact ⟨rfl, HA.out⟩
  ·have e : zsgn true x = -1 := by unfold zsgn; rw [if_neg hx]; rfl
   rw [e]
   go_enter Tryz.func63, Tryz.ntmps63
   go_wp2_with (go_at_call 74; refine H.out.mono ?_; rintro e w' ⟨rfl, rfl⟩)
   go_ret
   exact ⟨rfl, HA.out⟩
theorem cell_zset {W : World} {p : Addr} {v : Value} {g : Nat} (h : W.cell? p = some v) (hp : p.block ≠ g) (a b : Value) : ((W.setCell ⟨g, 0, none⟩ a).setCell ⟨g, 1, none⟩ b).cell? p = some v := by
 rw [World.cell?_setCell_other _ _ _ _ (by rintro rfl; exact hp rfl), World.cell?_setCell_other _ _ _ _ (by rintro rfl; exact hp rfl)]
 exact h
set_option maxHeartbeats 4000000 in
theorem zmul_any {w : World} {s t : Bool} {u v : Value} {x y L M K : Nat} (hu : Nw w u x L) (hv : Nw w v y M) (hL : L ≤ 17592186044416) (hM : M ≤ 17592186044416) (hK : x * y < Q ^ K) :
  Calls Tryz.prog 49 #[zv s u, zv t v] w (ZNew w (s != t) (x * y) K) := by
 obtain ⟨A, n, c, rfl⟩ := hu.slice
 obtain ⟨D, m, d, rfl⟩ := hv.slice
 have a1 : Below w.heap.size w (w.alloc (zbox s (.slice A n c))) := (Below.refl _ _).alloc (Nat.le_refl _) _
 have a2 : Below w.heap.size w ((w.alloc (zbox s (.slice A n c))).alloc (zbox t (.slice D m d))) := a1.alloc (by simp) _
 have a3 : Below w.heap.size w (((w.alloc (zbox s (.slice A n c))).alloc (zbox t (.slice D m d))).alloc zblk) := a2.alloc (by simp; omega) _
 have hz : Zb (((w.alloc (zbox s (.slice A n c))).alloc (zbox t (.slice D m d))).alloc zblk) (w.heap.size + 1 + 1) := by have h := Zb.new ((w.alloc (zbox s (.slice A n c))).alloc (zbox t (.slice D m d))); simpa using h
 have p0 : (((w.alloc (zbox s (.slice A n c))).alloc (zbox t (.slice D m d))).alloc zblk).drew.cell? ⟨w.heap.size, 0, none⟩ = some (.bool s) := by go_simp
 have p1 : (((w.alloc (zbox s (.slice A n c))).alloc (zbox t (.slice D m d))).alloc zblk).drew.cell? ⟨w.heap.size, 1, none⟩ = some (.slice A n c) := by go_simp
 have q0 : (((w.alloc (zbox s (.slice A n c))).alloc (zbox t (.slice D m d))).alloc zblk).drew.cell? ⟨w.heap.size + 1, 0, none⟩ = some (.bool t) := by go_simp
 have q1 : (((w.alloc (zbox s (.slice A n c))).alloc (zbox t (.slice D m d))).alloc zblk).drew.cell? ⟨w.heap.size + 1, 1, none⟩ = some (.slice D m d) := by go_simp
 have HU := hide (hu.step a3)
 have HV := hide (hv.step a3)
 have HA := hide a3
 have HZ := hide hz
 have HS := hide (show w.heap.size + 1 + 1 < (((w.alloc (zbox s (.slice A n c))).alloc (zbox t (.slice D m d))).alloc zblk).heap.size by simp)
 have HK := hide hK
 clear hu hv a1 a2 a3 hz hK
 go_enter Tryz.func49, Tryz.ntmps49
 go_wp2_with fail
 generalize hW0 : ((w.alloc (zbox s (.slice A n c))).alloc (zbox t (.slice D m d))).alloc zblk = W0 at *
 go_region_held3 (fun W => W.cell? ⟨w.heap.size, 0, none⟩ = some (.bool s) ∧ W.cell? ⟨w.heap.size, 1, none⟩ = some (.slice A n c) ∧ W.cell? ⟨w.heap.size + 1, 0, none⟩ = some (.bool t) ∧ W.cell? ⟨w.heap.size + 1, 1, none⟩ = some (.slice D m d))
  (first
   | exact ⟨p0, p1, q0, q1⟩
   | exact ⟨cell_keep p0 b1, cell_keep p1 b1, cell_keep q0 b1, cell_keep q1 b1⟩
   | exact ⟨cell_keep (cell_keep p0 b1) b2, cell_keep (cell_keep p1 b1) b2, cell_keep (cell_keep q0 b1) b2, cell_keep (cell_keep q1 b1) b2⟩
   | exact ⟨cell_zset (cell_keep (cell_keep p0 b1) b2) (by simp; omega) _ _, cell_zset (cell_keep (cell_keep p1 b1) b2) (by simp; omega) _ _, cell_zset (cell_keep (cell_keep q0 b1) b2) (by simp) _ _, cell_zset (cell_keep (cell_keep q1 b1) b2) (by simp) _ _⟩)
  (first
   | (go_at_call 81; refine (mul_b (w := W0.drew) (by exact HU.out) (by exact HV.out) hL hM HK.out).mono ?_; rintro e w1 ⟨r, rfl, -, c1, b1⟩; have b1' := below_of_drew b1; obtain ⟨sg, A1, n1, c1', rfl, hsg, hcall⟩ := signed_fit (w0 := w) (s := s != t) c1 (HZ.out.step HS.out b1') (by omega) (HA.out.trans (b1'.mono HA.out.size)))
   | (go_at_call 78; refine hcall.mono ?_; rintro e w2 ⟨rfl, b2, k0, k1, f0, f1, fin⟩))
 all_goals
  have F := hide fin
  clear fin
  go_wp2_with fail
  exact bodyPost_ret (zret rfl _ _ _ #[.bool sg, .slice A1 n1 c1'] rfl rfl F.out.1) rfl F.out.2
def Zi (w : World) (v : Value) (z : Int) (L : Nat) : Prop := ∃ u, v = zv (decide (z < 0)) u ∧ Cw w u z.natAbs L
def Za (w : World) (v : Value) (z : Int) (L : Nat) : Prop := ∃ s u x, v = zv s u ∧ Nw w u x L ∧ zi s x = z
def ZRet (w : World) (z : Int) (L : Nat) (e : Ending) (w' : World) : Prop := ∃ v, e = .returned v ∧ Zi w' v z L ∧ Below w.heap.size w w'
theorem zi_abs (s : Bool) (x : Nat) : (zi s x).natAbs = x := by unfold zi; cases s <;> simp
theorem zi_neg (s : Bool) (x : Nat) : (s && decide (x ≠ 0)) = decide (zi s x < 0) := by
 unfold zi
 cases s
 ·simp
 ·simp only [Bool.true_and, if_true]
  by_cases h : x = 0
  ·subst h; rfl
  ·rw [decide_eq_true h, decide_eq_true (by omega)]
theorem Zc.zi {w : World} {v : Value} {s : Bool} {x L : Nat} {z : Int} (h : Zc w v s x L) (hz : zi s x = z) : Zi w v z L := by
 obtain ⟨u, rfl, hc⟩ := h
 subst hz
 exact ⟨u, by rw [zi_neg], by rw [zi_abs]; exact hc⟩
theorem ZNew.zret {w : World} {s : Bool} {x L : Nat} {z : Int} {e : Ending} {w' : World} (h : ZNew w s x L e w') (hz : zi s x = z) : ZRet w z L e w' := by
 obtain ⟨v, he, hc, hb⟩ := h
 exact ⟨v, he, hc.zi hz, hb⟩
theorem Zi.za {w : World} {v : Value} {z : Int} {L : Nat} (h : Zi w v z L) : Za w v z L := by
 obtain ⟨u, rfl, hc⟩ := h
 refine ⟨_, u, z.natAbs, rfl, hc.nw, ?_⟩
 unfold Go.Proofs.YtehdkdoaamlkdaaGreat.zi
 by_cases hz : z < 0
 ·rw [decide_eq_true hz]; simp only [if_true]; omega
 ·rw [decide_eq_false hz]; simp only [Bool.false_eq_true, if_false]; omega
theorem Zi.step {w w' : World} {v : Value} {z : Int} {L : Nat} (h : Zi w v z L) (hb : Below w.heap.size w w') : Zi w' v z L := by
 obtain ⟨u, e, hc⟩ := h
 exact ⟨u, e, hc.step hb⟩
theorem Za.step {w w' : World} {v : Value} {z : Int} {L : Nat} (h : Za w v z L) (hb : Below w.heap.size w w') : Za w' v z L := by
 obtain ⟨s, u, x, e, hc, hz⟩ := h
 exact ⟨s, u, x, e, hc.step hb, hz⟩
set_option maxHeartbeats 4000000 in
theorem addSigned_any {w : World} {s t : Bool} {u v : Value} {x y L M K : Nat} (hu : Nw w u x L) (hv : Nw w v y M) (hL : L ≤ K) (hM : M ≤ K) (hK : K ≤ 17592186044000) :
  Calls Tryz.prog 84 #[zv s u, .bool t, v] w (ZRet w (zi s x + zi t y) (K + 1)) := by
 obtain ⟨A, n, c, rfl⟩ := hu.slice
 obtain ⟨D, m, d, rfl⟩ := hv.slice
 have a1 : Below w.heap.size w (w.alloc (zbox s (.slice A n c))) := (Below.refl _ _).alloc (Nat.le_refl _) _
 have a2 : Below w.heap.size w ((w.alloc (zbox s (.slice A n c))).alloc zblk) := a1.alloc (by simp) _
 have hz : Zb ((w.alloc (zbox s (.slice A n c))).alloc zblk) (w.heap.size + 1) := by have h := Zb.new (w.alloc (zbox s (.slice A n c))); simpa using h
 have HS := hide (show w.heap.size + 1 < ((w.alloc (zbox s (.slice A n c))).alloc zblk).heap.size by simp)
 have p0 : ((w.alloc (zbox s (.slice A n c))).alloc zblk).cell? ⟨w.heap.size, 0, none⟩ = some (.bool s) := by go_simp
 have p1 : ((w.alloc (zbox s (.slice A n c))).alloc zblk).cell? ⟨w.heap.size, 1, none⟩ = some (.slice A n c) := by go_simp
 have HU := hide (hu.step a2)
 have HV := hide (hv.step a2)
 have HA := hide a2
 have HZ := hide hz
 clear hu hv a1 a2 hz
 by_cases hst : s = t
 ·subst hst
  have tb : (s == s) = true := by simp
  have hzz : Hid (zi s (x + y) = zi s x + zi s y) := hide (by unfold zi; cases s <;> simp <;> omega)
  go_enter Tryz.func84, Tryz.ntmps84
  go_wp2_with fail
  generalize hW0 : (w.alloc (zbox s (.slice A n c))).alloc zblk = W0 at *
  refine (add_n (K := K) HU.out HV.out (by omega) (by omega) hL hM).mono ?_
  rintro e w1 ⟨r, rfl, -, c1, b1⟩
  obtain ⟨sg, A1, n1, c1', rfl, hsg, hcall⟩ := signed_fit (w0 := w) (s := s) c1 (HZ.out.step HS.out b1) (by omega) (HA.out.trans (b1.mono HA.out.size))
  have HC := hide hcall
  clear hcall hsg b1 c1 HU HV HA HZ p0 p1 hW0
  go_wp2_with fail
  refine HC.out.mono ?_
  rintro e w2 ⟨rfl, b2, k0, k1, f0, f1, fin⟩
  have F := hide fin
  clear fin HC b2
  go_wp2_with fail
  exact bodyPost_ret (zret rfl _ _ _ #[.bool sg, .slice A1 n1 c1'] rfl rfl F.out.1) rfl (F.out.2.zret hzz.out)
 ·have tb : (s == t) = false := by simpa using hst
  by_cases hle : y ≤ x
  ·have hzz : Hid (zi s (x - y) = zi s x + zi t y) := hide (by unfold zi; cases s <;> cases t <;> simp at hst ⊢ <;> omega)
   have HLE := hide hle
   clear hst hle
   go_enter Tryz.func84, Tryz.ntmps84
   go_wp2_with fail
   generalize hW0 : (w.alloc (zbox s (.slice A n c))).alloc zblk = W0 at *
   refine (sub_n HU.out HV.out (by omega) (by omega) HLE.out).mono ?_
   rintro e w1 ⟨r, rfl, -, c1, b1⟩
   have c1 : Cw w1 r (x - y) (K + 1) := by
    obtain ⟨A', c', e, h1, h2, h3, h4⟩ := c1
    exact ⟨A', c', e, h1, h2, h3, by omega⟩
   obtain ⟨sg, A1, n1, c1', rfl, hsg, hcall⟩ := signed_fit (w0 := w) (s := s) c1 (HZ.out.step HS.out b1) (by omega) (HA.out.trans (b1.mono HA.out.size))
   have q0 := cell_keep p0 b1
   have HC := hide hcall
   clear hcall hsg b1 c1 HU HV HA HZ p0 p1 hW0
   go_wp2_with fail
   refine HC.out.mono ?_
   rintro e w2 ⟨rfl, b2, k0, k1, f0, f1, fin⟩
   have F := hide fin
   clear fin HC b2
   go_wp2_with fail
   exact bodyPost_ret (zret rfl _ _ _ #[.bool sg, .slice A1 n1 c1'] rfl rfl F.out.1) rfl (F.out.2.zret hzz.out)
  ·have hzz : Hid (zi t (y - x) = zi s x + zi t y) := hide (by unfold zi; cases s <;> cases t <;> simp at hst ⊢ <;> omega)
   have HLT := hide (Nat.lt_of_not_le hle)
   clear hst hle
   go_enter Tryz.func84, Tryz.ntmps84
   go_wp2_with fail
   generalize hW0 : (w.alloc (zbox s (.slice A n c))).alloc zblk = W0 at *
   refine (sub_less HU.out HV.out (by omega) (by omega) HLT.out).mono ?_
   rintro e w1 ⟨rfl, b1⟩
   have q1 := cell_keep p1 b1
   have HU1 := hide (HU.out.step b1)
   have HV1 := hide (HV.out.step b1)
   have HZ1 := hide (HZ.out.step HS.out b1)
   have HA1 := hide (HA.out.trans (b1.mono HA.out.size))
   have HS1 := hide (Nat.lt_of_lt_of_le HS.out b1.size)
   clear b1 HU HV HA HZ p0 p1 hW0 HS
   go_wp2_with fail
   refine (sub_n HV1.out HU1.out (by omega) (by omega) (Nat.le_of_lt HLT.out)).mono ?_
   rintro e w3 ⟨r, rfl, -, c1, b1⟩
   have c1 : Cw w3 r (y - x) (K + 1) := by
    obtain ⟨A', c', e, h1, h2, h3, h4⟩ := c1
    exact ⟨A', c', e, h1, h2, h3, by omega⟩
   obtain ⟨sg, A1, n1, c1', rfl, hsg, hcall⟩ := signed_fit (w0 := w) (s := t) c1 (HZ1.out.step HS1.out b1) (by omega) (HA1.out.trans (b1.mono HA1.out.size))
   have HC := hide hcall
   clear hcall hsg b1 c1 HU1 HV1 HA1 HZ1 q1
   go_wp2_with fail
   refine HC.out.mono ?_
   rintro e w2 ⟨rfl, b2, k0, k1, f0, f1, fin⟩
   have F := hide fin
   clear fin HC b2
   go_wp2_with fail
   exact bodyPost_ret (zret rfl _ _ _ #[.bool sg, .slice A1 n1 c1'] rfl rfl F.out.1) rfl (F.out.2.zret hzz.out)
theorem ret_fit {w0 w : World} {v : Value} {z : Int} {L g : Nat} (h : Zi w v z L) (hz : Zb w g) (hg0 : w0.heap.size ≤ g) (hb : Below w0.heap.size w0 w) :
  ∃ sg A n c, v = zv sg (.slice A n c) ∧ w.cell? ⟨g, 0, none⟩ = some (.bool false) ∧ w.cell? ⟨g, 1, none⟩ = some (.slice none 0 0) ∧ w.frozen? ⟨g, 0, none⟩ = false ∧ w.frozen? ⟨g, 1, none⟩ = false ∧
   (((w.setCell ⟨g, 0, none⟩ (.bool sg)).setCell ⟨g, 1, none⟩ (.slice A n c)).heap[g]? = some (.cells #[.bool sg, .slice A n c] 41 (0, 0)) ∧
    ZRet w0 z L (.returned (zv sg (.slice A n c))) ((w.setCell ⟨g, 0, none⟩ (.bool sg)).setCell ⟨g, 1, none⟩ (.slice A n c))) := by
 obtain ⟨u, rfl, hc⟩ := h
 obtain ⟨A, c, rfl, -⟩ := id hc
 exact ⟨_, A, _, c, rfl, hz.c0, hz.c1, hz.fz 0, hz.fz 1, hz.set _ _, _, rfl, ⟨_, rfl, hc.zset hz _ _⟩, (hb.setCell hg0 _).setCell hg0 _⟩
set_option maxHeartbeats 2000000 in
theorem zadd_any {w : World} {u v : Value} {a b : Int} {L M K : Nat} (hu : Za w u a L) (hv : Za w v b M) (hL : L ≤ K) (hM : M ≤ K) (hK : K ≤ 17592186044000) :
  Calls Tryz.prog 66 #[u, v] w (ZRet w (a + b) (K + 1)) := by
 obtain ⟨s, u, x, rfl, hu, hx⟩ := hu
 obtain ⟨t, v, y, rfl, hv, hy⟩ := hv
 obtain ⟨A, n, c, rfl⟩ := hu.slice
 obtain ⟨D, m, d, rfl⟩ := hv.slice
 have a1 : Below w.heap.size w (w.alloc (zbox s (.slice A n c))) := (Below.refl _ _).alloc (Nat.le_refl _) _
 have a2 : Below w.heap.size w ((w.alloc (zbox s (.slice A n c))).alloc (zbox t (.slice D m d))) := a1.alloc (by simp) _
 have a3 : Below w.heap.size w (((w.alloc (zbox s (.slice A n c))).alloc (zbox t (.slice D m d))).alloc zblk) := a2.alloc (by simp; omega) _
 have hz : Zb (((w.alloc (zbox s (.slice A n c))).alloc (zbox t (.slice D m d))).alloc zblk) (w.heap.size + 1 + 1) := by have h := Zb.new ((w.alloc (zbox s (.slice A n c))).alloc (zbox t (.slice D m d))); simpa using h
 have HS := hide (show w.heap.size + 1 + 1 < (((w.alloc (zbox s (.slice A n c))).alloc (zbox t (.slice D m d))).alloc zblk).heap.size by simp)
 have hcall := addSigned_any (s := s) (t := t) (K := K) (hu.step a3) (hv.step a3) hL hM hK
 have hzz : zi s x + zi t y = a + b := by first | (rw [hx, hy]; done) | (rw [← hx, ← hy]; unfold zi; cases t <;> first | (simp; done) | (simp; omega))
 rw [hzz] at hcall
 have HC := hide hcall
 have HA := hide a3
 have HZ := hide hz
 clear hu hv a1 a2 a3 hz hcall hx hy hzz
 go_enter Tryz.func66, Tryz.ntmps66
 go_wp2_with fail
 refine HC.out.mono ?_
 rintro e w1 ⟨r, rfl, c1, b1⟩
 obtain ⟨sg, A1, n1, c1', rfl, k0, k1, f0, f1, fin⟩ := ret_fit (w0 := w) c1 (HZ.out.step HS.out b1) (by omega) (HA.out.trans (b1.mono HA.out.size))
 have F := hide fin
 clear fin HC b1 c1 HZ HA HS
 go_wp2_with fail
 exact bodyPost_ret (zret rfl _ _ _ #[.bool sg, .slice A1 n1 c1'] rfl rfl F.out.1) rfl F.out.2
set_option maxHeartbeats 2000000 in
theorem zsub_any {w : World} {u v : Value} {a b : Int} {L M K : Nat} (hu : Za w u a L) (hv : Za w v b M) (hL : L ≤ K) (hM : M ≤ K) (hK : K ≤ 17592186044000) :
  Calls Tryz.prog 85 #[u, v] w (ZRet w (a - b) (K + 1)) := by
 obtain ⟨s, u, x, rfl, hu, hx⟩ := hu
 obtain ⟨t, v, y, rfl, hv, hy⟩ := hv
 obtain ⟨A, n, c, rfl⟩ := hu.slice
 obtain ⟨D, m, d, rfl⟩ := hv.slice
 have a1 : Below w.heap.size w (w.alloc (zbox s (.slice A n c))) := (Below.refl _ _).alloc (Nat.le_refl _) _
 have a2 : Below w.heap.size w ((w.alloc (zbox s (.slice A n c))).alloc (zbox t (.slice D m d))) := a1.alloc (by simp) _
 have a3 : Below w.heap.size w (((w.alloc (zbox s (.slice A n c))).alloc (zbox t (.slice D m d))).alloc zblk) := a2.alloc (by simp; omega) _
 have hz : Zb (((w.alloc (zbox s (.slice A n c))).alloc (zbox t (.slice D m d))).alloc zblk) (w.heap.size + 1 + 1) := by have h := Zb.new ((w.alloc (zbox s (.slice A n c))).alloc (zbox t (.slice D m d))); simpa using h
 have HS := hide (show w.heap.size + 1 + 1 < (((w.alloc (zbox s (.slice A n c))).alloc (zbox t (.slice D m d))).alloc zblk).heap.size by simp)
 have hcall := addSigned_any (s := s) (t := !t) (K := K) (hu.step a3) (hv.step a3) hL hM hK
 have hzz : zi s x + zi (!t) y = a - b := by first | (rw [hx, hy]; done) | (rw [← hx, ← hy]; unfold zi; cases t <;> first | (simp; done) | (simp; omega))
 rw [hzz] at hcall
 have HC := hide hcall
 have HA := hide a3
 have HZ := hide hz
 clear hu hv a1 a2 a3 hz hcall hx hy hzz
 go_enter Tryz.func85, Tryz.ntmps85
 go_wp2_with fail
 refine HC.out.mono ?_
 rintro e w1 ⟨r, rfl, c1, b1⟩
 obtain ⟨sg, A1, n1, c1', rfl, k0, k1, f0, f1, fin⟩ := ret_fit (w0 := w) c1 (HZ.out.step HS.out b1) (by omega) (HA.out.trans (b1.mono HA.out.size))
 have F := hide fin
 clear fin HC b1 c1 HZ HA HS
 go_wp2_with fail
 exact bodyPost_ret (zret rfl _ _ _ #[.bool sg, .slice A1 n1 c1'] rfl rfl F.out.1) rfl F.out.2
def cmpZ (a b : Int) : Int := if a < b then -1 else if b < a then 1 else 0
def zsg (z : Int) : Int := if z = 0 then 0 else if z < 0 then -1 else 1
theorem zsgn_zi (s : Bool) (x : Nat) : zsgn s x = zsg (zi s x) := by
 unfold zsgn zsg zi
 cases s <;> simp <;> split <;> first | rfl | omega | (split <;> first | rfl | omega)
theorem zsg_lt {a b : Int} (h : zsg a < zsg b) : cmpZ a b = -1 := by
 unfold zsg cmpZ at *
 split at h <;> split at h <;> first | omega | (rw [if_pos (by omega)]) | (split at h <;> first | omega | (rw [if_pos (by omega)]) | (split at h <;> first | omega | (rw [if_pos (by omega)])))
theorem zsg_gt {a b : Int} (h : zsg b < zsg a) : cmpZ a b = 1 := by
 have h1 := zsg_lt h
 unfold cmpZ at *
 split at h1
 ·rw [if_neg (by omega), if_pos (by omega)]
 ·split at h1 <;> omega
theorem zsg_eq {s t : Bool} {x y : Nat} (h : zsgn s x = zsgn t y) : zsgn s x * cmpN x y = cmpZ (zi s x) (zi t y) ∧ -1 ≤ zsgn s x * cmpN x y ∧ zsgn s x * cmpN x y ≤ 1 := by
 have key : zsgn s x * cmpN x y = cmpZ (zi s x) (zi t y) := by
  by_cases hx : x = 0
  ·subst hx
   have hy : y = 0 := by
    unfold zsgn at h
    rw [if_pos rfl] at h
    by_cases hy : y = 0
    ·exact hy
    ·rw [if_neg hy] at h
     cases t <;> simp at h
   subst hy
   unfold zsgn cmpZ zi
   cases s <;> cases t <;> simp
  ·have hy : y ≠ 0 := by
    rintro rfl
    unfold zsgn at h
    rw [if_neg hx, if_pos rfl] at h
    cases s <;> simp at h
   unfold zsgn at h ⊢
   rw [if_neg hx, if_neg hy] at h
   rw [if_neg hx]
   cases s <;> cases t <;> simp at h
   ·unfold cmpZ zi cmpN
    simp only [Bool.false_eq_true, if_false]
    rcases Nat.lt_trichotomy x y with h1 | h1 | h1
    ·rw [if_pos h1, if_pos (by omega)]; rfl
    ·subst h1; simp
    ·rw [if_neg (by omega), if_pos h1, if_neg (by omega), if_pos (by omega)]; rfl
   ·unfold cmpZ zi cmpN
    simp only [if_true]
    rcases Nat.lt_trichotomy x y with h1 | h1 | h1
    ·rw [if_pos h1, if_neg (by omega), if_pos (by omega)]; rfl
    ·subst h1; simp
    ·rw [if_neg (by omega), if_pos h1, if_pos (by omega)]; rfl
 refine ⟨key, ?_⟩
 rw [key]
 unfold cmpZ
 split
 ·omega
 ·split <;> omega
set_option maxHeartbeats 4000000 in
theorem zcmp_any {w : World} {u v : Value} {a b : Int} {L M : Nat} (hu : Za w u a L) (hv : Za w v b M) (hL : L ≤ 17592186044000) (hM : M ≤ 17592186044000) :
  Calls Tryz.prog 48 #[u, v] w fun e w' => e = .returned (.int .i64 (cmpZ a b)) ∧ Below w.heap.size w w' := by
 obtain ⟨s, u, x, rfl, hu, hx⟩ := hu
 obtain ⟨t, v, y, rfl, hv, hy⟩ := hv
 subst hx
 subst hy
 obtain ⟨A, n, c, rfl⟩ := hu.slice
 obtain ⟨D, m, d, rfl⟩ := hv.slice
 have a1 : Below w.heap.size w (w.alloc (zbox s (.slice A n c))) := (Below.refl _ _).alloc (Nat.le_refl _) _
 have a2 : Below w.heap.size w ((w.alloc (zbox s (.slice A n c))).alloc (zbox t (.slice D m d))) := a1.alloc (by simp) _
 have p0 : ((w.alloc (zbox s (.slice A n c))).alloc (zbox t (.slice D m d))).drew.cell? ⟨w.heap.size, 0, none⟩ = some (.bool s) := by go_simp
 have p1 : ((w.alloc (zbox s (.slice A n c))).alloc (zbox t (.slice D m d))).drew.cell? ⟨w.heap.size, 1, none⟩ = some (.slice A n c) := by go_simp
 have q0 : ((w.alloc (zbox s (.slice A n c))).alloc (zbox t (.slice D m d))).drew.cell? ⟨w.heap.size + 1, 0, none⟩ = some (.bool t) := by go_simp
 have q1 : ((w.alloc (zbox s (.slice A n c))).alloc (zbox t (.slice D m d))).drew.cell? ⟨w.heap.size + 1, 1, none⟩ = some (.slice D m d) := by go_simp
 have HU := hide (hu.step a2)
 have HV := hide (hv.step a2)
 have HA := hide a2
 obtain ⟨sa, hsa⟩ : ∃ sa, Hid (zsgn s x = sa) := ⟨_, hide rfl⟩
 obtain ⟨sb, hsb⟩ : ∃ sb, Hid (zsgn t y = sb) := ⟨_, hide rfl⟩
 obtain ⟨r, hr⟩ : ∃ r, Hid (cmpZ (zi s x) (zi t y) = r) := ⟨_, hide rfl⟩
 rw [hr.out]
 have hcases : (decide (sa < sb) = true ∧ r = -1) ∨ (decide (sa < sb) = false ∧ decide (sb < sa) = true ∧ r = 1) ∨ (decide (sa < sb) = false ∧ decide (sb < sa) = false ∧ ∃ k, Hid (cmpN x y = k) ∧ IntKind.i64.wrap (sa * k) = r) := by
  have e1 := hsa.out
  have e2 := hsb.out
  have e3 := hr.out
  rcases Int.lt_trichotomy sa sb with h | h | h
  ·exact .inl ⟨decide_eq_true h, by rw [← e3]; exact zsg_lt (by rw [← zsgn_zi, ← zsgn_zi, e1, e2]; exact h)⟩
  ·refine .inr (.inr ⟨decide_eq_false (by omega), decide_eq_false (by omega), _, hide rfl, ?_⟩)
   obtain ⟨h1, h2, h3⟩ := zsg_eq (s := s) (t := t) (x := x) (y := y) (by rw [e1, e2]; exact h)
   rw [e1] at h1 h2 h3
   rw [IntWalk.i64_in _ (by omega), h1, e3]
  ·exact .inr (.inl ⟨decide_eq_false (by omega), decide_eq_true h, by rw [← e3]; exact zsg_gt (by rw [← zsgn_zi, ← zsgn_zi, e1, e2]; exact h)⟩)
 clear hu hv a1 a2 hr
 rcases hcases with ⟨t1, rfl⟩ | ⟨t1, t2, rfl⟩ | ⟨t1, t2, k, hk, ew⟩
 all_goals
  go_enter Tryz.func48, Tryz.ntmps48
  go_wp2_with fail
  generalize hW0 : (w.alloc (zbox s (.slice A n c))).alloc (zbox t (.slice D m d)) = W0 at *
  have S1 : Hid (Calls Tryz.prog 63 #[zv s (.slice A n c)] W0.drew fun e w' => e = .returned (.int .i64 sa) ∧ Below W0.drew.heap.size W0.drew w') := hide (by rw [← hsa.out]; exact sign_any (w := W0.drew) (s := s) HU.out hL)
  go_region_held3 (fun W => W.cell? ⟨w.heap.size, 0, none⟩ = some (.bool s) ∧ W.cell? ⟨w.heap.size, 1, none⟩ = some (.slice A n c) ∧ W.cell? ⟨w.heap.size + 1, 0, none⟩ = some (.bool t) ∧ W.cell? ⟨w.heap.size + 1, 1, none⟩ = some (.slice D m d))
   (first
    | exact ⟨p0, p1, q0, q1⟩
    | exact ⟨cell_keep p0 b1, cell_keep p1 b1, cell_keep q0 b1, cell_keep q1 b1⟩
    | exact ⟨cell_keep (cell_keep p0 b1) b2, cell_keep (cell_keep p1 b1) b2, cell_keep (cell_keep q0 b1) b2, cell_keep (cell_keep q1 b1) b2⟩)
   (first
    | (go_at_call 63; (with_reducible refine S1.out.mono ?_); rintro e w1 ⟨rfl, b1⟩; have S2 := hide (sign_any (w := w1) (s := t) (HV.out.step (below_of_drew b1)) hM))
    | (go_at_call 63; (with_reducible refine S2.out.mono ?_); rw [hsb.out]; rintro e w2 ⟨rfl, b2⟩))
  have B2 := hide (HA.out.trans (((below_of_drew b1).trans (b2.mono b1.size)).mono HA.out.size))
  have r1 := cell_keep (cell_keep p1 b1) b2
  have r2 := cell_keep (cell_keep q1 b1) b2
  have CM := hide (cmp_n ((HU.out.step (below_of_drew b1)).step b2) ((HV.out.step (below_of_drew b1)).step b2) (by omega) (by omega))
  clear p0 p1 q0 q1 b1 b2 S1 S2 HU HV HA hW0
  go_wp2_with (go_at_call 80; refine CM.out.mono ?_; rw [hk.out]; rintro e w3 ⟨rfl, rfl⟩)
  go_ret
  first | exact ⟨rfl, B2.out⟩ | exact ⟨by rw [← ew]; rfl, B2.out⟩
set_option maxHeartbeats 2000000 in
theorem zof_any (w : World) (z : Int) (h1 : -9223372036854775808 ≤ z) (h2 : z ≤ 9223372036854775807) :
  Calls Tryz.prog 75 #[.int .i64 z] w (ZRet w z 1) := by
 obtain ⟨m, hm⟩ : ∃ m, z.natAbs = m := ⟨_, rfl⟩
 have hmQ : m < Q := by unfold Q; omega
 have a1 : Below w.heap.size w (w.alloc zblk) := (Below.refl _ _).alloc (Nat.le_refl _) _
 have a2 : Below w.heap.size w ((w.alloc zblk).alloc (.cells #[.int .u64 (m : Int)] 94)) := a1.alloc (by simp) _
 have hz : Zb ((w.alloc zblk).alloc (.cells #[.int .u64 (m : Int)] 94)) w.heap.size := (Zb.new w).step (by simp) ((Below.refl _ _).alloc (Nat.le_refl _) _)
 have HS := hide (show w.heap.size < ((w.alloc zblk).alloc (.cells #[.int .u64 (m : Int)] 94)).heap.size by simp; omega)
 have hn : Nw ((w.alloc zblk).alloc (.cells #[.int .u64 (m : Int)] 94)) (.slice (some ⟨w.heap.size + 1, 0, none⟩) 1 1) m 1 := by
  have hr := Rd.lit1 .u64 (w.alloc zblk) 94 m
  refine ⟨some ⟨w.heap.size + 1, 0, none⟩, 1, 1, [m], rfl, ?_, Dg.cons hmQ Dg.nil, Nat.le_refl _, by simp [maxLen], by simp [vl], Nat.le_refl _⟩
  simpa using hr
 have hmk := hide (make_any (s := decide (z < 0)) hn (by omega))
 have hzz : Hid (zi (decide (z < 0)) m = z) := hide (by
  unfold zi
  by_cases h : z < 0
  ·rw [decide_eq_true h]; simp only [if_true]; omega
  ·rw [decide_eq_false h]; simp only [Bool.false_eq_true, if_false]; omega)
 have HA := hide a2
 have HZ := hide hz
 clear a1 a2 hz hn
 by_cases h0 : z < 0
 ·have t1 : decide (z < 0) = true := decide_eq_true h0
  obtain ⟨k, hk⟩ : ∃ k : Nat, 18446744073709551616 - m = k := ⟨_, rfl⟩
  have e1 : IntKind.u64.wrap z = (k : Int) := by rw [IntKind.wrap_u64]; omega
  have e2 : IntKind.u64.wrap (-(k : Int)) = (m : Int) := by rw [IntKind.wrap_u64]; omega
  rw [t1] at hmk hzz
  have HZ2 := hide hzz.out
  clear hk hm hmQ hzz
  go_enter Tryz.func75, Tryz.ntmps75
  go_wp2_with fail
  refine hmk.out.mono ?_
  rintro e w1 ⟨r, rfl, c1, b1⟩
  have c2 := c1.zi HZ2.out
  obtain ⟨sg, A1, n1, c1', rfl, k0, k1, f0, f1, fin⟩ := ret_fit (w0 := w) c2 (HZ.out.step HS.out b1) (Nat.le_refl _) (HA.out.trans (b1.mono HA.out.size))
  have F := hide fin
  clear fin hmk b1 c1 c2 HZ HA HS
  go_wp2_with fail
  exact bodyPost_ret (zret rfl _ _ _ #[.bool sg, .slice A1 n1 c1'] rfl rfl F.out.1) rfl F.out.2
 ·have t1 : decide (z < 0) = false := decide_eq_false h0
  have e1 : IntKind.u64.wrap z = (m : Int) := by rw [IntKind.wrap_u64]; omega
  rw [t1] at hmk hzz
  have HZ2 := hide hzz.out
  clear hm hmQ hzz
  go_enter Tryz.func75, Tryz.ntmps75
  go_wp2_with fail
  refine hmk.out.mono ?_
  rintro e w1 ⟨r, rfl, c1, b1⟩
  have c2 := c1.zi HZ2.out
  obtain ⟨sg, A1, n1, c1', rfl, k0, k1, f0, f1, fin⟩ := ret_fit (w0 := w) c2 (HZ.out.step HS.out b1) (Nat.le_refl _) (HA.out.trans (b1.mono HA.out.size))
  have F := hide fin
  clear fin hmk b1 c1 c2 HZ HA HS
  go_wp2_with fail
  exact bodyPost_ret (zret rfl _ _ _ #[.bool sg, .slice A1 n1 c1'] rfl rfl F.out.1) rfl F.out.2
def zq (a b : Int) : Int := if 0 ≤ b then a / b else (-a) / (-b)
def zr (a b : Int) : Int := a - zq a b * b
theorem ediv_of {a b q r : Int} (hb : 0 < b) (h : r + b * q = a) (h0 : 0 ≤ r) (h1 : r < b) : a / b = q := ((Int.ediv_emod_unique hb).2 ⟨h, h0, h1⟩).1
theorem zq_same {s : Bool} {x y : Nat} (hy : 0 < y) : zq (zi s x) (zi s y) = zi false (x / y) ∧ zr (zi s x) (zi s y) = zi s (x % y) := by
 have e0 : ((x % y : Nat) : Int) + (y : Int) * ((x / y : Nat) : Int) = (x : Int) := by
  have h := Nat.mod_add_div x y
  rw [← Int.natCast_mul, ← Int.natCast_add, h]
 have hr := Nat.mod_lt x hy
 have hq : zq (zi s x) (zi s y) = ((x / y : Nat) : Int) := by
  unfold zq zi
  cases s
  ·simp only [Bool.false_eq_true, if_false]
   rw [if_pos (by omega)]
   exact ediv_of (by omega) e0 (by omega) (by omega)
  ·simp only [if_true]
   rw [if_neg (by omega), Int.neg_neg, Int.neg_neg]
   exact ediv_of (by omega) e0 (by omega) (by omega)
 refine ⟨by rw [hq]; rfl, ?_⟩
 unfold zr
 rw [hq]
 generalize x / y = q at *
 generalize x % y = r at *
 unfold zi
 cases s
 ·simp only [Bool.false_eq_true, if_false]
  rw [Int.mul_comm]
  omega
 ·simp only [if_true]
  rw [Int.mul_neg, Int.mul_comm]
  omega
theorem zq_even {s t : Bool} {x y : Nat} (hst : s ≠ t) (hy : 0 < y) (h0 : x % y = 0) : zq (zi s x) (zi t y) = zi true (x / y) ∧ zr (zi s x) (zi t y) = zi t 0 := by
 have e0 : (y : Int) * ((x / y : Nat) : Int) = (x : Int) := by
  have h := Nat.mod_add_div x y
  rw [h0, Nat.zero_add] at h
  rw [← Int.natCast_mul, h]
 have hq : zq (zi s x) (zi t y) = -((x / y : Nat) : Int) := by
  unfold zq zi
  cases s <;> cases t <;> simp only [Bool.false_eq_true, if_false, if_true]
  ·exact absurd rfl hst
  ·rw [if_neg (by omega), Int.neg_neg]
   exact ediv_of (r := 0) (by omega) (by rw [Int.mul_neg, e0]; omega) (by omega) (by omega)
  ·rw [if_pos (by omega)]
   exact ediv_of (r := 0) (by omega) (by rw [Int.mul_neg, e0]; omega) (by omega) (by omega)
  ·exact absurd rfl hst
 refine ⟨by rw [hq]; rfl, ?_⟩
 unfold zr
 rw [hq]
 generalize x / y = q at *
 unfold zi
 cases s <;> cases t <;> simp only [Bool.false_eq_true, if_false, if_true]
 ·exact absurd rfl hst
 ·rw [Int.mul_neg, Int.neg_mul, Int.mul_comm]; omega
 ·rw [Int.neg_mul, Int.mul_comm]; omega
 ·exact absurd rfl hst
theorem zq_odd {s t : Bool} {x y : Nat} (hst : s ≠ t) (hy : 0 < y) (h0 : x % y ≠ 0) : zq (zi s x) (zi t y) = zi true (x / y + 1) ∧ zr (zi s x) (zi t y) = zi t (y - x % y) := by
 have e0 : ((x % y : Nat) : Int) + (y : Int) * ((x / y : Nat) : Int) = (x : Int) := by
  have h := Nat.mod_add_div x y
  rw [← Int.natCast_mul, ← Int.natCast_add, h]
 have hr := Nat.mod_lt x hy
 generalize x / y = q at *
 generalize x % y = r at *
 have e1 : (y : Int) * -((q : Int) + 1) = -((y : Int) * (q : Int)) - (y : Int) := by rw [Int.mul_neg, Int.mul_add, Int.mul_one]; omega
 have hq : zq (zi s x) (zi t y) = -((q : Int) + 1) := by
  unfold zq zi
  cases s <;> cases t <;> simp only [Bool.false_eq_true, if_false, if_true]
  ·exact absurd rfl hst
  ·rw [if_neg (by omega), Int.neg_neg]
   exact ediv_of (r := (y : Int) - (r : Int)) (by omega) (by rw [e1]; omega) (by omega) (by omega)
  ·rw [if_pos (by omega)]
   exact ediv_of (r := (y : Int) - (r : Int)) (by omega) (by rw [e1]; omega) (by omega) (by omega)
  ·exact absurd rfl hst
 refine ⟨by rw [hq]; unfold zi; simp, ?_⟩
 unfold zr
 rw [hq]
 unfold zi
 cases s <;> cases t <;> simp only [Bool.false_eq_true, if_false, if_true]
 ·exact absurd rfl hst
 ·rw [Int.mul_comm, Int.neg_mul, e1]; omega
 ·rw [Int.mul_comm, e1]; omega
 ·exact absurd rfl hst
theorem zret3 {fn : Func} {p q r : Tmp} (h : fn.results = #[.cell p 41, .cell q 41, .tmp r]) (tmps : Array Value) (w : World) (g g' : Nat) (cs cs' : Array Value) (hs : cs.size = 2) (hs' : cs'.size = 2)
  (hp : tmps.getD p undef = .pointer (some ⟨g, 0, none⟩)) (hq : tmps.getD q undef = .pointer (some ⟨g', 0, none⟩)) (hg : w.heap[g]? = some (.cells cs 41 (0, 0))) (hg' : w.heap[g']? = some (.cells cs' 41 (0, 0))) :
  (results fn tmps).run Tryz.prog w = .ok (.tuple #[.agg cs, .agg cs', tmps.getD r undef]) w := by
 have hp' : tmps[p]?.getD undef = .pointer (some ⟨g, 0, none⟩) := by simpa using hp
 have hq' : tmps[q]?.getD undef = .pointer (some ⟨g', 0, none⟩) := by simpa using hq
 simp only [results, h]
 simp [Sem.run_bind, Result.andThen, hp', hq', asAddr, run_loadVar_row (P := Tryz.prog) w g 41 41 cs (0, 0) _ hg Tryz.underlying41 rfl (by rw [hs]; kernel_rfl), run_loadVar_row (P := Tryz.prog) w g' 41 41 cs' (0, 0) _ hg' Tryz.underlying41 rfl (by rw [hs']; kernel_rfl)]
theorem Zb.far {w : World} {g h : Nat} (hz : Zb w g) (hne : g ≠ h) (a b : Value) : Zb ((w.setCell ⟨h, 0, none⟩ a).setCell ⟨h, 1, none⟩ b) g := by
 unfold Zb at *
 rw [heap_setCell_other _ _ _ _ (by exact hne), heap_setCell_other _ _ _ _ (by exact hne)]
 exact hz
theorem heap_far {w : World} {g h : Nat} {o : Obj} (hz : w.heap[g]? = some o) (hne : g ≠ h) (a b : Value) : ((w.setCell ⟨h, 0, none⟩ a).setCell ⟨h, 1, none⟩ b).heap[g]? = some o := by
 rw [heap_setCell_other _ _ _ _ (by exact hne), heap_setCell_other _ _ _ _ (by exact hne)]
 exact hz
def ZdRet (w : World) (a b : Int) (K M : Nat) (e : Ending) (w' : World) : Prop :=
 ∃ q r, e = .returned (.tuple #[q, r, .int .i64 0]) ∧ Zi w' q (zq a b) K ∧ Zi w' r (zr a b) M ∧ Below w.heap.size w w'
theorem two_fit {w0 w : World} {s1 s2 : Bool} {u1 u2 : Value} {x1 x2 K M g3 g4 : Nat} {a b : Int} (h1 : Cw w u1 x1 K) (h2 : Cw w u2 x2 M) (z3 : Zb w g3) (z4 : Zb w g4) (hne : g4 ≠ g3) (hg3 : w0.heap.size ≤ g3) (hg4 : w0.heap.size ≤ g4)
  (hb : Below w0.heap.size w0 w) (e1 : zi s1 x1 = zq a b) (e2 : zi s2 x2 = zr a b) :
  ∃ t1 A1 n1 c1 t2 A2 n2 c2, u1 = .slice A1 n1 c1 ∧ u2 = .slice A2 n2 c2 ∧ Calls Tryz.prog 78 #[.bool s1, .slice A1 n1 c1] w (fun e w1 => e = .returned (zv t1 (.slice A1 n1 c1)) ∧ Below w.heap.size w w1 ∧
   Calls Tryz.prog 78 #[.bool s2, .slice A2 n2 c2] w1 (fun e w2 => e = .returned (zv t2 (.slice A2 n2 c2)) ∧ Below w1.heap.size w1 w2 ∧
    w2.cell? ⟨g3, 0, none⟩ = some (.bool false) ∧ w2.cell? ⟨g3, 1, none⟩ = some (.slice none 0 0) ∧ w2.frozen? ⟨g3, 0, none⟩ = false ∧ w2.frozen? ⟨g3, 1, none⟩ = false ∧
    ((w2.setCell ⟨g3, 0, none⟩ (.bool t1)).setCell ⟨g3, 1, none⟩ (.slice A1 n1 c1)).cell? ⟨g4, 0, none⟩ = some (.bool false) ∧ ((w2.setCell ⟨g3, 0, none⟩ (.bool t1)).setCell ⟨g3, 1, none⟩ (.slice A1 n1 c1)).cell? ⟨g4, 1, none⟩ = some (.slice none 0 0) ∧
    ((w2.setCell ⟨g3, 0, none⟩ (.bool t1)).setCell ⟨g3, 1, none⟩ (.slice A1 n1 c1)).frozen? ⟨g4, 0, none⟩ = false ∧ ((w2.setCell ⟨g3, 0, none⟩ (.bool t1)).setCell ⟨g3, 1, none⟩ (.slice A1 n1 c1)).frozen? ⟨g4, 1, none⟩ = false ∧
    ∀ w4, w4 = ((((w2.setCell ⟨g3, 0, none⟩ (.bool t1)).setCell ⟨g3, 1, none⟩ (.slice A1 n1 c1)).setCell ⟨g4, 0, none⟩ (.bool t2)).setCell ⟨g4, 1, none⟩ (.slice A2 n2 c2)) →
     w4.heap[g3]? = some (.cells #[.bool t1, .slice A1 n1 c1] 41 (0, 0)) ∧ w4.heap[g4]? = some (.cells #[.bool t2, .slice A2 n2 c2] 41 (0, 0)) ∧
     ZdRet w0 a b K M (.returned (.tuple #[zv t1 (.slice A1 n1 c1), zv t2 (.slice A2 n2 c2), .int .i64 0])) w4)) := by
 have k1 := signed_c (s := s1) h1
 obtain ⟨A1, c1, rfl, -⟩ := id h1
 obtain ⟨A2, c2, rfl, -⟩ := id h2
 have l3 : g3 < w.heap.size := by have h := z3; unfold Zb at h; exact (Array.getElem?_eq_some_iff.1 h).1
 have l4 : g4 < w.heap.size := by have h := z4; unfold Zb at h; exact (Array.getElem?_eq_some_iff.1 h).1
 refine ⟨_, A1, _, c1, (s2 && decide (x2 ≠ 0)), A2, _, c2, rfl, rfl, k1.mono fun e w1 ⟨he, hb1⟩ => ⟨he, hb1, ?_⟩⟩
 have h2' := h2.step hb1
 refine (signed_c (s := s2) h2').mono fun e w2 ⟨he2, hb2⟩ => ?_
 have y3 := (z3.step l3 hb1).step (Nat.lt_of_lt_of_le l3 hb1.size) hb2
 have y4 := (z4.step l4 hb1).step (Nat.lt_of_lt_of_le l4 hb1.size) hb2
 have y4' := y4.far hne (.bool (s1 && decide (x1 ≠ 0))) (.slice A1 (cn Q x1).length c1)
 refine ⟨he2, hb2, y3.c0, y3.c1, y3.fz 0, y3.fz 1, y4'.c0, y4'.c1, y4'.fz 0, y4'.fz 1, ?_⟩
 rintro w4 rfl
 refine ⟨heap_far (y3.set _ _) (Ne.symm hne) _ _, y4'.set _ _, _, _, rfl, ?_, ?_, ?_⟩
 ·exact Zc.zi ⟨_, rfl, ((((h1.step hb1).step hb2).zset y3 _ _).zset y4' _ _)⟩ e1
 ·exact Zc.zi ⟨_, rfl, (((h2'.step hb2).zset y3 _ _).zset y4' _ _)⟩ e2
 ·exact ((((hb.trans (hb1.mono hb.size)).trans (hb2.mono (Nat.le_trans hb.size hb1.size))).setCell hg3 _).setCell hg3 _ |>.setCell hg4 _).setCell hg4 _
theorem Cw.more {w : World} {v : Value} {x L M : Nat} (h : Cw w v x L) (hL : L ≤ M) : Cw w v x M := by
 obtain ⟨A, c, e, h1, h2, h3, h4⟩ := h
 exact ⟨A, c, e, h1, h2, h3, by omega⟩
theorem zdiv_world (w : World) (s t : Bool) (A D : Option Addr) (n c m d : Nat) :
  let W := (((w.alloc (zbox s (.slice A n c))).alloc (zbox t (.slice D m d))).alloc zblk).alloc zblk
  Below w.heap.size w W ∧ Zb W (w.heap.size + 1 + 1) ∧ Zb W (w.heap.size + 1 + 1 + 1) ∧ W.heap.size = w.heap.size + 4 ∧ W.cell? ⟨w.heap.size, 0, none⟩ = some (.bool s) ∧ W.cell? ⟨w.heap.size, 1, none⟩ = some (.slice A n c) ∧
   W.cell? ⟨w.heap.size + 1, 0, none⟩ = some (.bool t) ∧ W.cell? ⟨w.heap.size + 1, 1, none⟩ = some (.slice D m d) := by
 intro W
 have a1 : Below w.heap.size w (w.alloc (zbox s (.slice A n c))) := (Below.refl _ _).alloc (Nat.le_refl _) _
 have a2 : Below w.heap.size w ((w.alloc (zbox s (.slice A n c))).alloc (zbox t (.slice D m d))) := a1.alloc (by simp) _
 have a3 : Below w.heap.size w (((w.alloc (zbox s (.slice A n c))).alloc (zbox t (.slice D m d))).alloc zblk) := a2.alloc (by simp; omega) _
 have a4 : Below w.heap.size w W := a3.alloc (by simp; omega) _
 have z3 : Zb (((w.alloc (zbox s (.slice A n c))).alloc (zbox t (.slice D m d))).alloc zblk) (w.heap.size + 1 + 1) := by have h := Zb.new ((w.alloc (zbox s (.slice A n c))).alloc (zbox t (.slice D m d))); simpa using h
 have z3' : Zb W (w.heap.size + 1 + 1) := z3.step (by simp) ((Below.refl _ _).alloc (Nat.le_refl _) _)
 have z4 : Zb W (w.heap.size + 1 + 1 + 1) := by have h := Zb.new (((w.alloc (zbox s (.slice A n c))).alloc (zbox t (.slice D m d))).alloc zblk); simpa using h
 refine ⟨a4, z3', z4, by simp [W], ?_, ?_, ?_, ?_⟩ <;> (simp only [W]; go_simp)
-- behind XZint8: the region of the last return runs away (go_region_held3, more than 100 s, already where the signs are the same)
set_option maxHeartbeats 8000000 in
theorem zdiv_any {w : World} {u v : Value} {a b : Int} {L M K : Nat} (hu : Za w u a L) (hv : Za w v b M) (hb0 : b ≠ 0) (hL : L ≤ K) (hM : M ≤ K) (hK : K ≤ 17592186044000) :
  Calls Tryz.prog 46 #[u, v] w (ZdRet w a b (K + 1) (K + 1)) := by
 obtain ⟨s, u, x, rfl, hu, rfl⟩ := hu
 obtain ⟨t, v, y, rfl, hv, rfl⟩ := hv
 obtain ⟨A, n, c, rfl⟩ := hu.slice
 obtain ⟨D, m, d, rfl⟩ := hv.slice
 have hy : 0 < y := by
  rcases Nat.eq_zero_or_pos y with h | h
  ·subst h
   exact absurd (by unfold zi; cases t <;> rfl) hb0
  ·exact h
 obtain ⟨a4, z3, z4, hsz, p0, p1, q0, q1⟩ := zdiv_world w s t A D n c m d
 have HU := hide (hu.step a4)
 have HV := hide (hv.step a4)
 have HA := hide a4
 have Z3 := hide z3
 have Z4 := hide z4
 have HSZ := hide hsz
 have HY := hide hy
 clear hu hv a4 z3 z4 hsz hb0 hy
 go_enter Tryz.func46, Tryz.ntmps46
 go_wp2_with fail
 generalize hW0 : (((w.alloc (zbox s (.slice A n c))).alloc (zbox t (.slice D m d))).alloc zblk).alloc zblk = W0 at *
 refine (ndivmod HU.out HV.out (by omega) HY.out).mono ?_
 rintro e w1 ⟨qv, rv, rfl, -, -, -, cq, cr, b1⟩
 have CQ := hide cq
 have CR := hide cr
 have p0' := cell_keep p0 b1
 have q0' := cell_keep q0 b1
 have q1' := cell_keep q1 b1
 have HV1 := hide (HV.out.step b1)
 have HA1 := hide (HA.out.trans (b1.mono HA.out.size))
 have Z31 := hide (Z3.out.step (by have := HSZ.out; omega) b1)
 have Z41 := hide (Z4.out.step (by have := HSZ.out; omega) b1)
 have HS1 := hide (show w.heap.size + 4 ≤ w1.heap.size by have := HSZ.out; have := b1.size; omega)
 by_cases hst : s = t
 ·subst hst
  have t0 : (s != s) = false := by simp
  obtain ⟨e1, e2⟩ := zq_same (s := s) (x := x) HY.out
  have p0d : w1.drew.cell? ⟨w.heap.size, 0, none⟩ = some (.bool s) := p0'
  have q0d : w1.drew.cell? ⟨w.heap.size + 1, 0, none⟩ = some (.bool s) := q0'
  have Z31d : Zb w1.drew (w.heap.size + 1 + 1) := Z31.out
  have Z41d : Zb w1.drew (w.heap.size + 1 + 1 + 1) := Z41.out
  have CQd : Cw w1.drew qv (x / y) (K + 1) := CQ.out.more (show L ≤ K + 1 by omega)
  have CRd : Cw w1.drew rv (x % y) (K + 1) := CR.out.more (show M ≤ K + 1 by omega)
  obtain ⟨t1, A1, n1, c1, t2, A2, n2, c2, rfl, rfl, hcall⟩ := two_fit (w0 := w) (w := w1.drew) (s1 := false) (s2 := s) (a := zi s x) (b := zi s y) (g3 := w.heap.size + 1 + 1) (g4 := w.heap.size + 1 + 1 + 1) CQd CRd Z31d Z41d (by omega) (by omega) (by omega) (below_drewN HA1.out 1) e1.symm e2.symm
  clear CQ CR cr cq b1 HU HV HA Z3 Z4 HSZ p0 p1 q0 q1 q1' hW0 HV1 Z31 Z41 HA1 e1 e2 CQd CRd Z31d Z41d
  go_wp2_with fail
  have H1 := hide hcall
  clear hcall
  go_wp2_with fail
  go_region_held3 (fun W => W.cell? ⟨w.heap.size, 0, none⟩ = some (.bool s) ∧ W.cell? ⟨w.heap.size + 1, 0, none⟩ = some (.bool s))
   (first
    | with_reducible exact ⟨p0d, q0d⟩
    | with_reducible exact ⟨cell_keep p0d b7, cell_keep q0d b7⟩
    | with_reducible exact ⟨cell_keep (cell_keep p0d b7) b8, cell_keep (cell_keep q0d b7) b8⟩
    | with_reducible exact ⟨cell_zset (cell_keep (cell_keep p0d b7) b8) (by simp <;> omega) _ _, cell_zset (cell_keep (cell_keep q0d b7) b8) (by simp <;> omega) _ _⟩
    | with_reducible exact ⟨cell_zset (cell_zset (cell_keep (cell_keep p0d b7) b8) (by simp <;> omega) _ _) (by simp <;> omega) _ _, cell_zset (cell_zset (cell_keep (cell_keep q0d b7) b8) (by simp <;> omega) _ _) (by simp <;> omega) _ _⟩)
   (first
    | (go_at_call 78; (with_reducible refine H1.out.mono ?_); rintro e w7 ⟨rfl, b7, hc2⟩; have H2 := hide hc2; clear hc2)
    | (go_at_call 78; (with_reducible refine H2.out.mono ?_); rintro e w8 ⟨rfl, b8, k0, k1, f0, f1, j0, j1, d0, d1, fin⟩))
  all_goals
   have F := hide (fin _ rfl)
   clear fin
   go_wp2_with fail
   exact bodyPost_ret (zret3 (p := 4) (q := 5) (r := 6) rfl _ _ (w.heap.size + 1 + 1) (w.heap.size + 1 + 1 + 1) #[.bool t1, .slice A1 n1 c1] #[.bool t2, .slice A2 n2 c2] rfl rfl rfl rfl F.out.1 F.out.2.1) rfl F.out.2.2
 ·obtain ⟨A3, c3, hrv, -⟩ := id cr
  obtain ⟨lr, hlr⟩ : ∃ lr, Hid ((cn Q (x % y)).length = lr) := ⟨_, hide rfl⟩
  rw [hlr.out] at hrv
  have hsplit : (s = false ∧ t = true) ∨ (s = true ∧ t = false) := by cases s <;> cases t <;> simp at hst ⊢
  rcases hsplit with ⟨rfl, rfl⟩ | ⟨rfl, rfl⟩
  ·by_cases hr0 : x % y = 0
   ·obtain rfl : lr = 0 := by rw [← hlr.out, hr0, cn_zero]; rfl
    obtain ⟨e1, e2⟩ := zq_even (x := x) hst HY.out hr0
    have CR0 := CR.out
    rw [hr0] at CR0
    have p0d : w1.drew.cell? ⟨w.heap.size, 0, none⟩ = some (.bool false) := p0'
    have q0d : w1.drew.cell? ⟨w.heap.size + 1, 0, none⟩ = some (.bool true) := q0'
    have Z31d : Zb w1.drew (w.heap.size + 1 + 1) := Z31.out
    have Z41d : Zb w1.drew (w.heap.size + 1 + 1 + 1) := Z41.out
    have CQd : Cw w1.drew qv (x / y) (K + 1) := CQ.out.more (show L ≤ K + 1 by omega)
    have CRd : Cw w1.drew rv 0 (K + 1) := CR0.more (show M ≤ K + 1 by omega)
    obtain ⟨t1, A1, n1, c1, t2, A2, n2, c2, rfl, hr2, hcall⟩ := two_fit (w0 := w) (w := w1.drew) (s1 := true) (s2 := true) (a := zi false x) (b := zi true y) (g3 := w.heap.size + 1 + 1) (g4 := w.heap.size + 1 + 1 + 1) CQd CRd Z31d Z41d (by omega) (by omega) (by omega) (below_drewN HA1.out 1) e1.symm e2.symm
    rw [hrv] at hr2
    subst hrv
    cases hr2
    clear CQ CR cr cq b1 HU HV HA Z3 Z4 HSZ p0 p1 q0 q1 q1' hW0 HV1 Z31 Z41 HA1 e1 e2 CR0 hr0 hst CQd CRd Z31d Z41d
    go_wp2_with fail
    have H1 := hide hcall
    clear hcall
    go_wp2_with fail
    go_region_held3 (fun W => W.cell? ⟨w.heap.size, 0, none⟩ = some (.bool false) ∧ W.cell? ⟨w.heap.size + 1, 0, none⟩ = some (.bool true))
     (first
      | with_reducible exact ⟨p0d, q0d⟩
      | with_reducible exact ⟨cell_keep p0d b7, cell_keep q0d b7⟩
      | with_reducible exact ⟨cell_keep (cell_keep p0d b7) b8, cell_keep (cell_keep q0d b7) b8⟩
      | with_reducible exact ⟨cell_zset (cell_keep (cell_keep p0d b7) b8) (by simp <;> omega) _ _, cell_zset (cell_keep (cell_keep q0d b7) b8) (by simp <;> omega) _ _⟩
      | with_reducible exact ⟨cell_zset (cell_zset (cell_keep (cell_keep p0d b7) b8) (by simp <;> omega) _ _) (by simp <;> omega) _ _, cell_zset (cell_zset (cell_keep (cell_keep q0d b7) b8) (by simp <;> omega) _ _) (by simp <;> omega) _ _⟩)
     (first
      | (go_at_call 78; (with_reducible refine H1.out.mono ?_); rintro e w7 ⟨rfl, b7, hc2⟩; have H2 := hide hc2; clear hc2)
      | (go_at_call 78; (with_reducible refine H2.out.mono ?_); rintro e w8 ⟨rfl, b8, k0, k1, f0, f1, j0, j1, d0, d1, fin⟩))
    all_goals
     have F := hide (fin _ rfl)
     clear fin
     go_wp2_with fail
     exact bodyPost_ret (zret3 (p := 4) (q := 5) (r := 6) rfl _ _ (w.heap.size + 1 + 1) (w.heap.size + 1 + 1 + 1) #[.bool t1, .slice A1 n1 c1] #[.bool t2, .slice A3 0 c3] rfl rfl rfl rfl F.out.1 F.out.2.1) rfl F.out.2.2
   ·have hlr0 : 0 < lr := by
     rw [← hlr.out]
     exact List.length_pos_iff.2 (fun h => hr0 ((cn_eq_nil Q_two).1 h))
    obtain ⟨e1, e2⟩ := zq_odd (x := x) hst HY.out hr0
    have hml : x % y ≤ y := Nat.le_of_lt (Nat.mod_lt _ HY.out)
    have HML := hide hml
    have E1 := hide e1
    have E2 := hide e2
    have CR' := hide (show Nw w1 (.slice A3 lr c3) (x % y) M by rw [← hrv]; exact CR.out.nw)
    subst hrv
    have ha : Below w1.heap.size w1 (w1.alloc (.cells #[.int .u64 1] 94)) := (Below.refl _ _).alloc (Nat.le_refl _) _
    have AD := hide (add_n (K := K) (CQ.out.nw.step ha) (one_lit w1) (by omega) (by omega) hL (show 1 ≤ K by
     rcases Nat.eq_zero_or_pos K with h | h
     ·exfalso
      have h1 := HV1.out.lt
      have h2 := HY.out
      have h3 : M = 0 := by omega
      rw [h3, Nat.pow_zero] at h1
      omega
     ·exact h))
    have HB := hide ha
    clear CQ cr cq b1 HU HV HA Z3 Z4 HSZ p0 p1 q0 q1 hW0 hr0 hst hml e1 e2 ha
    go_wp2_with fail
    refine AD.out.mono ?_
    rintro e w2 ⟨qv2, rfl, -, cq2, b2⟩
    have bb := HB.out.trans (b2.mono HB.out.size)
    have CQ2 := hide cq2
    have p02 := cell_keep p0' bb
    have q02 := cell_keep q0' bb
    have q12 := cell_keep q1' bb
    have HV2 := hide (HV1.out.step bb)
    have CR2 := hide (CR'.out.step bb)
    have HA2 := hide (HA1.out.trans (bb.mono HA1.out.size))
    have Z32 := hide (Z31.out.step (by have := HS1.out; omega) bb)
    have Z42 := hide (Z41.out.step (by have := HS1.out; omega) bb)
    have HS2 := hide (Nat.le_trans HS1.out bb.size)
    clear cq2 b2 bb AD HB HV1 CR CR' HA1 Z31 Z41 HS1 p0' q0' q1'
    go_wp2_with fail
    refine (sub_n HV2.out CR2.out (by omega) (by omega) HML.out).mono ?_
    rintro e w3 ⟨rv2, rfl, -, cr3, b3⟩
    have b3d : Below w2.heap.size w2 w3.drew := below_drewN b3 1
    have p0d : w3.drew.cell? ⟨w.heap.size, 0, none⟩ = some (.bool false) := cell_keep p02 b3d
    have q0d : w3.drew.cell? ⟨w.heap.size + 1, 0, none⟩ = some (.bool true) := cell_keep q02 b3d
    have Z3d : Zb w3.drew (w.heap.size + 1 + 1) := Z32.out.step (by have := HS2.out; omega) b3d
    have Z4d : Zb w3.drew (w.heap.size + 1 + 1 + 1) := Z42.out.step (by have := HS2.out; omega) b3d
    have CQd : Cw w3.drew qv2 (x / y + 1) (K + 1) := CQ2.out.step b3d
    have CRd : Cw w3.drew rv2 (y - x % y) (K + 1) := cr3.more (show M ≤ K + 1 by omega)
    obtain ⟨t1, A1, n1, c1, t2, A2, n2, c2, rfl, rfl, hcall⟩ := two_fit (w0 := w) (w := w3.drew) (s1 := true) (s2 := true) (a := zi false x) (b := zi true y) (g3 := w.heap.size + 1 + 1) (g4 := w.heap.size + 1 + 1 + 1) CQd CRd Z3d Z4d (by omega) (by omega) (by omega) (below_drewN (HA2.out.trans (b3.mono HA2.out.size)) 1) E1.out.symm E2.out.symm
    clear CQ2 p02 q02 q12 HV2 CR2 HA2 Z32 Z42 HS2 b3 b3d cr3 E1 E2 HML CQd CRd Z3d Z4d
    go_wp2_with fail
    have H1 := hide hcall
    clear hcall
    go_wp2_with fail
    go_region_held3 (fun W => W.cell? ⟨w.heap.size, 0, none⟩ = some (.bool false) ∧ W.cell? ⟨w.heap.size + 1, 0, none⟩ = some (.bool true))
     (first
      | with_reducible exact ⟨p0d, q0d⟩
      | with_reducible exact ⟨cell_keep p0d b7, cell_keep q0d b7⟩
      | with_reducible exact ⟨cell_keep (cell_keep p0d b7) b8, cell_keep (cell_keep q0d b7) b8⟩
      | with_reducible exact ⟨cell_zset (cell_keep (cell_keep p0d b7) b8) (by simp <;> omega) _ _, cell_zset (cell_keep (cell_keep q0d b7) b8) (by simp <;> omega) _ _⟩
      | with_reducible exact ⟨cell_zset (cell_zset (cell_keep (cell_keep p0d b7) b8) (by simp <;> omega) _ _) (by simp <;> omega) _ _, cell_zset (cell_zset (cell_keep (cell_keep q0d b7) b8) (by simp <;> omega) _ _) (by simp <;> omega) _ _⟩)
     (first
      | (go_at_call 78; (with_reducible refine H1.out.mono ?_); rintro e w7 ⟨rfl, b7, hc2⟩; have H2 := hide hc2; clear hc2)
      | (go_at_call 78; (with_reducible refine H2.out.mono ?_); rintro e w8 ⟨rfl, b8, k0, k1, f0, f1, j0, j1, d0, d1, fin⟩))
    all_goals
     have F := hide (fin _ rfl)
     clear fin
     go_wp2_with fail
     exact bodyPost_ret (zret3 (p := 4) (q := 5) (r := 6) rfl _ _ (w.heap.size + 1 + 1) (w.heap.size + 1 + 1 + 1) #[.bool t1, .slice A1 n1 c1] #[.bool t2, .slice A2 n2 c2] rfl rfl rfl rfl F.out.1 F.out.2.1) rfl F.out.2.2
  ·by_cases hr0 : x % y = 0
   ·obtain rfl : lr = 0 := by rw [← hlr.out, hr0, cn_zero]; rfl
    obtain ⟨e1, e2⟩ := zq_even (x := x) hst HY.out hr0
    have CR0 := CR.out
    rw [hr0] at CR0
    have p0d : w1.drew.cell? ⟨w.heap.size, 0, none⟩ = some (.bool true) := p0'
    have q0d : w1.drew.cell? ⟨w.heap.size + 1, 0, none⟩ = some (.bool false) := q0'
    have Z31d : Zb w1.drew (w.heap.size + 1 + 1) := Z31.out
    have Z41d : Zb w1.drew (w.heap.size + 1 + 1 + 1) := Z41.out
    have CQd : Cw w1.drew qv (x / y) (K + 1) := CQ.out.more (show L ≤ K + 1 by omega)
    have CRd : Cw w1.drew rv 0 (K + 1) := CR0.more (show M ≤ K + 1 by omega)
    obtain ⟨t1, A1, n1, c1, t2, A2, n2, c2, rfl, hr2, hcall⟩ := two_fit (w0 := w) (w := w1.drew) (s1 := true) (s2 := false) (a := zi true x) (b := zi false y) (g3 := w.heap.size + 1 + 1) (g4 := w.heap.size + 1 + 1 + 1) CQd CRd Z31d Z41d (by omega) (by omega) (by omega) (below_drewN HA1.out 1) e1.symm e2.symm
    rw [hrv] at hr2
    subst hrv
    cases hr2
    clear CQ CR cr cq b1 HU HV HA Z3 Z4 HSZ p0 p1 q0 q1 q1' hW0 HV1 Z31 Z41 HA1 e1 e2 CR0 hr0 hst CQd CRd Z31d Z41d
    go_wp2_with fail
    have H1 := hide hcall
    clear hcall
    go_wp2_with fail
    go_region_held3 (fun W => W.cell? ⟨w.heap.size, 0, none⟩ = some (.bool true) ∧ W.cell? ⟨w.heap.size + 1, 0, none⟩ = some (.bool false))
     (first
      | with_reducible exact ⟨p0d, q0d⟩
      | with_reducible exact ⟨cell_keep p0d b7, cell_keep q0d b7⟩
      | with_reducible exact ⟨cell_keep (cell_keep p0d b7) b8, cell_keep (cell_keep q0d b7) b8⟩
      | with_reducible exact ⟨cell_zset (cell_keep (cell_keep p0d b7) b8) (by simp <;> omega) _ _, cell_zset (cell_keep (cell_keep q0d b7) b8) (by simp <;> omega) _ _⟩
      | with_reducible exact ⟨cell_zset (cell_zset (cell_keep (cell_keep p0d b7) b8) (by simp <;> omega) _ _) (by simp <;> omega) _ _, cell_zset (cell_zset (cell_keep (cell_keep q0d b7) b8) (by simp <;> omega) _ _) (by simp <;> omega) _ _⟩)
     (first
      | (go_at_call 78; (with_reducible refine H1.out.mono ?_); rintro e w7 ⟨rfl, b7, hc2⟩; have H2 := hide hc2; clear hc2)
      | (go_at_call 78; (with_reducible refine H2.out.mono ?_); rintro e w8 ⟨rfl, b8, k0, k1, f0, f1, j0, j1, d0, d1, fin⟩))
    all_goals
     have F := hide (fin _ rfl)
     clear fin
     go_wp2_with fail
     exact bodyPost_ret (zret3 (p := 4) (q := 5) (r := 6) rfl _ _ (w.heap.size + 1 + 1) (w.heap.size + 1 + 1 + 1) #[.bool t1, .slice A1 n1 c1] #[.bool t2, .slice A3 0 c3] rfl rfl rfl rfl F.out.1 F.out.2.1) rfl F.out.2.2
   ·have hlr0 : 0 < lr := by
     rw [← hlr.out]
     exact List.length_pos_iff.2 (fun h => hr0 ((cn_eq_nil Q_two).1 h))
    obtain ⟨e1, e2⟩ := zq_odd (x := x) hst HY.out hr0
    have hml : x % y ≤ y := Nat.le_of_lt (Nat.mod_lt _ HY.out)
    have HML := hide hml
    have E1 := hide e1
    have E2 := hide e2
    have CR' := hide (show Nw w1 (.slice A3 lr c3) (x % y) M by rw [← hrv]; exact CR.out.nw)
    subst hrv
    have ha : Below w1.heap.size w1 (w1.alloc (.cells #[.int .u64 1] 94)) := (Below.refl _ _).alloc (Nat.le_refl _) _
    have AD := hide (add_n (K := K) (CQ.out.nw.step ha) (one_lit w1) (by omega) (by omega) hL (show 1 ≤ K by
     rcases Nat.eq_zero_or_pos K with h | h
     ·exfalso
      have h1 := HV1.out.lt
      have h2 := HY.out
      have h3 : M = 0 := by omega
      rw [h3, Nat.pow_zero] at h1
      omega
     ·exact h))
    have HB := hide ha
    clear CQ cr cq b1 HU HV HA Z3 Z4 HSZ p0 p1 q0 q1 hW0 hr0 hst hml e1 e2 ha
    go_wp2_with fail
    refine AD.out.mono ?_
    rintro e w2 ⟨qv2, rfl, -, cq2, b2⟩
    have bb := HB.out.trans (b2.mono HB.out.size)
    have CQ2 := hide cq2
    have p02 := cell_keep p0' bb
    have q02 := cell_keep q0' bb
    have q12 := cell_keep q1' bb
    have HV2 := hide (HV1.out.step bb)
    have CR2 := hide (CR'.out.step bb)
    have HA2 := hide (HA1.out.trans (bb.mono HA1.out.size))
    have Z32 := hide (Z31.out.step (by have := HS1.out; omega) bb)
    have Z42 := hide (Z41.out.step (by have := HS1.out; omega) bb)
    have HS2 := hide (Nat.le_trans HS1.out bb.size)
    clear cq2 b2 bb AD HB HV1 CR CR' HA1 Z31 Z41 HS1 p0' q0' q1'
    go_wp2_with fail
    refine (sub_n HV2.out CR2.out (by omega) (by omega) HML.out).mono ?_
    rintro e w3 ⟨rv2, rfl, -, cr3, b3⟩
    have b3d : Below w2.heap.size w2 w3.drew := below_drewN b3 1
    have p0d : w3.drew.cell? ⟨w.heap.size, 0, none⟩ = some (.bool true) := cell_keep p02 b3d
    have q0d : w3.drew.cell? ⟨w.heap.size + 1, 0, none⟩ = some (.bool false) := cell_keep q02 b3d
    have Z3d : Zb w3.drew (w.heap.size + 1 + 1) := Z32.out.step (by have := HS2.out; omega) b3d
    have Z4d : Zb w3.drew (w.heap.size + 1 + 1 + 1) := Z42.out.step (by have := HS2.out; omega) b3d
    have CQd : Cw w3.drew qv2 (x / y + 1) (K + 1) := CQ2.out.step b3d
    have CRd : Cw w3.drew rv2 (y - x % y) (K + 1) := cr3.more (show M ≤ K + 1 by omega)
    obtain ⟨t1, A1, n1, c1, t2, A2, n2, c2, rfl, rfl, hcall⟩ := two_fit (w0 := w) (w := w3.drew) (s1 := true) (s2 := false) (a := zi true x) (b := zi false y) (g3 := w.heap.size + 1 + 1) (g4 := w.heap.size + 1 + 1 + 1) CQd CRd Z3d Z4d (by omega) (by omega) (by omega) (below_drewN (HA2.out.trans (b3.mono HA2.out.size)) 1) E1.out.symm E2.out.symm
    clear CQ2 p02 q02 q12 HV2 CR2 HA2 Z32 Z42 HS2 b3 b3d cr3 E1 E2 HML CQd CRd Z3d Z4d
    go_wp2_with fail
    have H1 := hide hcall
    clear hcall
    go_wp2_with fail
    go_region_held3 (fun W => W.cell? ⟨w.heap.size, 0, none⟩ = some (.bool true) ∧ W.cell? ⟨w.heap.size + 1, 0, none⟩ = some (.bool false))
     (first
      | with_reducible exact ⟨p0d, q0d⟩
      | with_reducible exact ⟨cell_keep p0d b7, cell_keep q0d b7⟩
      | with_reducible exact ⟨cell_keep (cell_keep p0d b7) b8, cell_keep (cell_keep q0d b7) b8⟩
      | with_reducible exact ⟨cell_zset (cell_keep (cell_keep p0d b7) b8) (by simp <;> omega) _ _, cell_zset (cell_keep (cell_keep q0d b7) b8) (by simp <;> omega) _ _⟩
      | with_reducible exact ⟨cell_zset (cell_zset (cell_keep (cell_keep p0d b7) b8) (by simp <;> omega) _ _) (by simp <;> omega) _ _, cell_zset (cell_zset (cell_keep (cell_keep q0d b7) b8) (by simp <;> omega) _ _) (by simp <;> omega) _ _⟩)
     (first
      | (go_at_call 78; (with_reducible refine H1.out.mono ?_); rintro e w7 ⟨rfl, b7, hc2⟩; have H2 := hide hc2; clear hc2)
      | (go_at_call 78; (with_reducible refine H2.out.mono ?_); rintro e w8 ⟨rfl, b8, k0, k1, f0, f1, j0, j1, d0, d1, fin⟩))
    all_goals
     have F := hide (fin _ rfl)
     clear fin
     go_wp2_with fail
     exact bodyPost_ret (zret3 (p := 4) (q := 5) (r := 6) rfl _ _ (w.heap.size + 1 + 1) (w.heap.size + 1 + 1 + 1) #[.bool t1, .slice A1 n1 c1] #[.bool t2, .slice A2 n2 c2] rfl rfl rfl rfl F.out.1 F.out.2.1) rfl F.out.2.2
-- behind XZint9: the region of the last return runs away (go_region_held3, more than 100 s, already where the signs are the same)
end Go.Proofs.YtehdkdoaamlkdaaGreat
