/-
  Shared texts, one behind the other: Zint1, Zint2, Zint3, Zint4, Zint5, Zint8, Zint9, Zint10.
-/
import Derived.Test.YtpfeacdhplbblaaGreatBundleB
import Derived.Test.YtpfeacdhplbblaaGreatBundleA
import Derived.Test.YtpfeacdhplbblaaGreatBundleC
import Derived.Lib.SmallJoins

namespace Go.Proofs.YtpfeacdhplbblaaGreat
open Go.RowKit Go.Proofs.YtpfeacdhplbblaaGreat.Num
set_option linter.unusedVariables false
set_option maxRecDepth 100000
abbrev zv (s : Bool) (u : Value) : Value := .agg #[.bool s, u]
theorem zret {fn : Func} {p : Tmp} (h : fn.results = #[.cell p 34]) (tmps : Array Value) (w : World) (g : Nat) (cs : Array Value) (hs : cs.size = 2)
    (hp : tmps.getD p undef = .pointer (some ⟨g, 0, none⟩)) (hg : w.heap[g]? = some (.cells cs 34 (0, 0))) : (results fn tmps).run Tryz.prog w = .ok (.agg cs) w :=
  results_cell_row h tmps w g 34 cs (0, 0) _ hp hg Tryz.underlying34 rfl (by rw [hs]; kernel_rfl)
theorem signed_any (s : Bool) (A : Option Addr) (n c : Nat) (w : World) :
    Calls Tryz.prog 71 #[.bool s, .slice A n c] w fun e w' => e = .returned (zv (s && decide (0 < n)) (.slice A n c)) ∧ Below w.heap.size w w' := by
  cases s
  · go_enter Tryz.func71, Tryz.ntmps71
    go_wp2_with fail
    refine bodyPost_ret (zret rfl _ _ w.heap.size #[.bool false, .slice A n c] rfl rfl (heap_alloc_new _ _)) rfl ⟨rfl, (Below.refl _ _).alloc (Nat.le_refl _) _⟩
  · by_cases h0 : 0 < n
    · have e : decide (0 < n) = true := decide_eq_true h0
      rw [e]
      have t1 : decide ((0 : Int) < (n : Int)) = true := decide_eq_true (by omega)
      go_enter Tryz.func71, Tryz.ntmps71
      go_wp2_with fail
      refine bodyPost_ret (zret rfl _ _ w.heap.size #[.bool true, .slice A n c] rfl rfl (heap_alloc_new _ _)) rfl ⟨rfl, (Below.refl _ _).alloc (Nat.le_refl _) _⟩
    · obtain rfl : n = 0 := by omega
      go_enter Tryz.func71, Tryz.ntmps71
      go_wp2_with fail
      refine bodyPost_ret (zret rfl _ _ w.heap.size #[.bool false, .slice A 0 c] rfl rfl (heap_alloc_new _ _)) rfl ⟨rfl, (Below.refl _ _).alloc (Nat.le_refl _) _⟩
def Zc (w : World) (v : Value) (s : Bool) (x L : Nat) : Prop := ∃ u, v = zv (s && decide (x ≠ 0)) u ∧ Cw w u x L
theorem signed_c {w : World} {s : Bool} {u : Value} {x L : Nat} (h : Cw w u x L) :
    Calls Tryz.prog 71 #[.bool s, u] w fun e w' => e = .returned (zv (s && decide (x ≠ 0)) u) ∧ Below w.heap.size w w' := by
  obtain ⟨A, c, rfl, h1, h2⟩ := h
  refine (signed_any s A _ c w).mono fun e w' ⟨he, hb⟩ => ⟨?_, hb⟩
  rw [he]
  have e1 : decide (0 < (cn Q x).length) = decide (x ≠ 0) := by
    by_cases hx : x = 0
    · subst hx; rw [cn_zero]; rfl
    · have : 0 < (cn Q x).length := List.length_pos_iff.2 (fun h => hx ((cn_eq_nil Q_two).1 h))
      rw [decide_eq_true this, decide_eq_true hx]
  rw [e1]
abbrev zblk : Obj := .cells #[.bool false, .slice none 0 0] 34
def Zb (w : World) (g : Nat) : Prop := w.heap[g]? = some zblk
theorem Zb.new (w : World) : Zb (w.alloc zblk) w.heap.size := heap_alloc_new _ _
theorem Zb.step {w w' : World} {g : Nat} (h : Zb w g) (hg : g < w.heap.size) (hb : Below w.heap.size w w') : Zb w' g := (hb.block g hg).trans h
theorem Zb.c0 {w : World} {g : Nat} (h : Zb w g) : w.cell? ⟨g, 0, none⟩ = some (.bool false) := cell_of_row w g 0 _ _ _ h
theorem Zb.c1 {w : World} {g : Nat} (h : Zb w g) : w.cell? ⟨g, 1, none⟩ = some (.slice none 0 0) := cell_of_row w g 1 _ _ _ h
theorem Zb.fz {w : World} {g : Nat} (h : Zb w g) (j : Nat) : w.frozen? ⟨g, j, none⟩ = false := frozen_of_row w g j _ _ h
theorem Zb.set {w : World} {g : Nat} (h : Zb w g) (a b : Value) : ((w.setCell ⟨g, 0, none⟩ a).setCell ⟨g, 1, none⟩ b).heap[g]? = some (.cells #[a, b] 34 (0, 0)) :=
  heap_setCell_same _ g 1 _ _ b (heap_setCell_same w g 0 _ _ a h)
theorem Rd.zset {w : World} {B n g : Nat} {A : Option Addr} {xs : List Nat} (h : Rd .u64 w B A n xs) (hz : Zb w g) (a b : Value) : Rd .u64 ((w.setCell ⟨g, 0, none⟩ a).setCell ⟨g, 1, none⟩ b) B A n xs := by
  refine ⟨h.1, fun hn => ?_⟩
  obtain ⟨bb, off, e, hb, hc⟩ := h.2 hn
  refine ⟨bb, off, e, hb, fun j hj => ?_⟩
  have hne : bb ≠ g := by
    rintro rfl
    have h1 := hc 0 hn
    have hz' : w.heap[bb]? = some (.cells #[.bool false, .slice none 0 0] 34 (0, 0)) := hz
    rw [Nat.add_zero, cell_of_row w bb off _ _ _ hz'] at h1
    match off, h1 with
    | 0, h1 => simp at h1
    | 1, h1 => simp at h1
    | (k + 2), h1 => simp at h1
  rw [World.cell?_setCell_other _ _ _ _ (by intro h2; apply hne; injection h2 with h3; exact h3.symm), World.cell?_setCell_other _ _ _ _ (by intro h2; apply hne; injection h2 with h3; exact h3.symm)]
  exact hc j hj
theorem size_zset (w : World) (g : Nat) (a b : Value) : ((w.setCell ⟨g, 0, none⟩ a).setCell ⟨g, 1, none⟩ b).heap.size = w.heap.size := by simp [World.setCell]
theorem Cw.zset {w : World} {v : Value} {x L g : Nat} (h : Cw w v x L) (hz : Zb w g) (a b : Value) : Cw ((w.setCell ⟨g, 0, none⟩ a).setCell ⟨g, 1, none⟩ b) v x L := by
  obtain ⟨A, c, e, h1, h2⟩ := h
  exact ⟨A, c, e, by rw [size_zset]; exact h1.zset hz a b, h2⟩
def ZNew (w : World) (s : Bool) (x L : Nat) (e : Ending) (w' : World) : Prop := ∃ v, e = .returned v ∧ Zc w' v s x L ∧ Below w.heap.size w w'
theorem signed_fit {w0 w : World} {s : Bool} {u : Value} {x L g : Nat} (h : Cw w u x L) (hz : Zb w g) (hg0 : w0.heap.size ≤ g) (hb : Below w0.heap.size w0 w) :
    ∃ sg A n c, u = .slice A n c ∧ (s && decide (x ≠ 0)) = sg ∧ Calls Tryz.prog 71 #[.bool s, .slice A n c] w fun e w' => e = .returned (zv sg (.slice A n c)) ∧ Below w.heap.size w w' ∧
      w'.cell? ⟨g, 0, none⟩ = some (.bool false) ∧ w'.cell? ⟨g, 1, none⟩ = some (.slice none 0 0) ∧ w'.frozen? ⟨g, 0, none⟩ = false ∧ w'.frozen? ⟨g, 1, none⟩ = false ∧
      (((w'.setCell ⟨g, 0, none⟩ (.bool sg)).setCell ⟨g, 1, none⟩ (.slice A n c)).heap[g]? = some (.cells #[.bool sg, .slice A n c] 34 (0, 0)) ∧
        ZNew w0 s x L (.returned (zv sg (.slice A n c))) ((w'.setCell ⟨g, 0, none⟩ (.bool sg)).setCell ⟨g, 1, none⟩ (.slice A n c))) := by
  have hs := signed_c (s := s) h
  obtain ⟨A, c, rfl, -⟩ := id h
  have hlt : g < w.heap.size := by have h1 := hz; unfold Zb at h1; exact (Array.getElem?_eq_some_iff.1 h1).1
  refine ⟨_, A, _, c, rfl, rfl, hs.mono fun e w' ⟨he, hb2⟩ => ?_⟩
  have hz2 := hz.step hlt hb2
  have hb3 := hb.trans (hb2.mono hb.size)
  exact ⟨he, hb2, hz2.c0, hz2.c1, hz2.fz 0, hz2.fz 1, hz2.set _ _, _, rfl, ⟨_, rfl, (h.step hb2).zset hz2 _ _⟩, (hb3.setCell hg0 _).setCell hg0 _⟩
set_option maxHeartbeats 1000000 in
theorem make_any {w : World} {s : Bool} {u : Value} {x L : Nat} (h : Nw w u x L) (hL : L ≤ 17592186044000) :
    Calls Tryz.prog 89 #[.bool s, u] w (ZNew w s x L) := by
  have a0 : Below w.heap.size w (w.alloc zblk) := (Below.refl _ _).alloc (Nat.le_refl _) _
  have H := hide (h.step a0)
  have HA := hide a0
  clear h a0
  go_enter Tryz.func89, Tryz.ntmps89
  go_wp2_with fail
  refine (ntrim_n H.out (by omega)).mono ?_
  rintro e w1 ⟨r, rfl, -, c1, b1⟩
  obtain ⟨sg, A, n, c, rfl, hsg, hcall⟩ := signed_fit (w0 := w) (s := s) c1 ((Zb.new w).step (by simp) b1) (Nat.le_refl _) (HA.out.trans (b1.mono HA.out.size))
  have HC := hide hcall
  clear c1 b1 H HA hcall hsg
  go_wp2_with fail
  refine HC.out.mono ?_
  rintro e w2 ⟨rfl, -, k0, k1, f0, f1, fin⟩
  have F := hide fin
  clear fin HC
  go_wp2_with fail
  exact bodyPost_ret (zret rfl _ _ w.heap.size #[.bool sg, .slice A n c] rfl rfl F.out.1) rfl F.out.2
abbrev zbox (s : Bool) (u : Value) : Obj := .cells #[.bool s, u] 34
theorem Nw.slice {w : World} {u : Value} {x L : Nat} (h : Nw w u x L) : ∃ A n c, u = .slice A n c := by
  obtain ⟨A, n, c, xs, e, _⟩ := h
  exact ⟨A, n, c, e⟩
def zi (s : Bool) (x : Nat) : Int := if s then -(x : Int) else (x : Int)
def zsgn (s : Bool) (x : Nat) : Int := if x = 0 then 0 else if s then -1 else 1
set_option maxHeartbeats 1000000 in
theorem sign_any {w : World} {s : Bool} {u : Value} {x L : Nat} (h : Nw w u x L) (hL : L ≤ 17592186044000) :
    Calls Tryz.prog 69 #[zv s u] w fun e w' => e = .returned (.int .i64 (zsgn s x)) ∧ Below w.heap.size w w' := by
  obtain ⟨A, n, c, rfl⟩ := h.slice
  have a1 : Below w.heap.size w (w.alloc (zbox s (.slice A n c))) := (Below.refl _ _).alloc (Nat.le_refl _) _
  obtain ⟨b, hb⟩ := isBits_ex x
  have H := hide (nbits_s (h.step a1) hb (by omega))
  have HA := hide a1
  have hb0 : x = 0 ↔ b = 0 := by
    constructor
    · intro h0; subst h0
      exact hb.one IsBits.zero
    · intro h0; subst h0
      have := hb.1
      omega
  clear h a1
  by_cases hx : x = 0
  · obtain rfl : b = 0 := hb0.1 hx
    have e : zsgn s x = 0 := by unfold zsgn; rw [if_pos hx]
    rw [e]
    clear hb hb0
    go_enter Tryz.func69, Tryz.ntmps69
    go_wp2_with (go_at_call 57; refine H.out.mono ?_; rintro e w' ⟨rfl, rfl⟩)
    go_ret
    exact ⟨rfl, HA.out⟩
  · have hb1 : b ≠ 0 := fun h0 => hx (hb0.2 h0)
    have t1 : ((b : Int) == 0) = false := beq_eq_false_iff_ne.2 (by omega)
    clear hb hb0
    cases s
    · have e : zsgn false x = 1 := by unfold zsgn; rw [if_neg hx]; rfl
      rw [e]
      go_enter Tryz.func69, Tryz.ntmps69
      go_wp2_with (go_at_call 57; refine H.out.mono ?_; rintro e w' ⟨rfl, rfl⟩)
      go_ret
      exact ⟨rfl, HA.out⟩
    · have e : zsgn true x = -1 := by unfold zsgn; rw [if_neg hx]; rfl
      rw [e]
      go_enter Tryz.func69, Tryz.ntmps69
      go_wp2_with (go_at_call 57; refine H.out.mono ?_; rintro e w' ⟨rfl, rfl⟩)
      go_ret
      exact ⟨rfl, HA.out⟩
theorem cell_zset {W : World} {p : Addr} {v : Value} {g : Nat} (h : W.cell? p = some v) (hp : p.block ≠ g) (a b : Value) : ((W.setCell ⟨g, 0, none⟩ a).setCell ⟨g, 1, none⟩ b).cell? p = some v := by
  rw [World.cell?_setCell_other _ _ _ _ (by rintro rfl; exact hp rfl), World.cell?_setCell_other _ _ _ _ (by rintro rfl; exact hp rfl)]
  exact h
set_option maxHeartbeats 4000000 in
theorem zmul_any {w : World} {s t : Bool} {u v : Value} {x y L M K : Nat} (hu : Nw w u x L) (hv : Nw w v y M) (hL : L ≤ 17592186044416) (hM : M ≤ 17592186044416) (hK : x * y < Q ^ K) :
    Calls Tryz.prog 50 #[zv s u, zv t v] w (ZNew w (s != t) (x * y) K) := by
  obtain ⟨A, n, c, rfl⟩ := hu.slice
  obtain ⟨D, m, d, rfl⟩ := hv.slice
  have a1 : Below w.heap.size w (w.alloc (zbox s (.slice A n c))) := (Below.refl _ _).alloc (Nat.le_refl _) _
  have a2 : Below w.heap.size w ((w.alloc (zbox s (.slice A n c))).alloc (zbox t (.slice D m d))) := a1.alloc (by simp) _
  have a3 : Below w.heap.size w (((w.alloc (zbox s (.slice A n c))).alloc (zbox t (.slice D m d))).alloc zblk) := a2.alloc (by simp; omega) _
  have hz : Zb (((w.alloc (zbox s (.slice A n c))).alloc (zbox t (.slice D m d))).alloc zblk) (w.heap.size + 1 + 1) := by have h := Zb.new ((w.alloc (zbox s (.slice A n c))).alloc (zbox t (.slice D m d))); simpa using h
  have p0 : (((w.alloc (zbox s (.slice A n c))).alloc (zbox t (.slice D m d))).alloc zblk).drew.cell? ⟨w.heap.size, 0, none⟩ = some (.bool s) := by go_simp
  have p1 : (((w.alloc (zbox s (.slice A n c))).alloc (zbox t (.slice D m d))).alloc zblk).drew.cell? ⟨w.heap.size, 1, none⟩ = some (.slice A n c) := by go_simp
  have q0 : (((w.alloc (zbox s (.slice A n c))).alloc (zbox t (.slice D m d))).alloc zblk).drew.cell? ⟨w.heap.size + 1, 0, none⟩ = some (.bool t) := by go_simp
  have q1 : (((w.alloc (zbox s (.slice A n c))).alloc (zbox t (.slice D m d))).alloc zblk).drew.cell? ⟨w.heap.size + 1, 1, none⟩ = some (.slice D m d) := by go_simp
  have HU := hide (hu.step a3)
  have HV := hide (hv.step a3)
  have HA := hide a3
  have HZ := hide hz
  have HS := hide (show w.heap.size + 1 + 1 < (((w.alloc (zbox s (.slice A n c))).alloc (zbox t (.slice D m d))).alloc zblk).heap.size by simp)
  have HK := hide hK
  clear hu hv a1 a2 a3 hz hK
  go_enter Tryz.func50, Tryz.ntmps50
  go_wp2_with fail
  generalize hW0 : ((w.alloc (zbox s (.slice A n c))).alloc (zbox t (.slice D m d))).alloc zblk = W0 at *
  go_region_held3 (fun W => W.cell? ⟨w.heap.size, 0, none⟩ = some (.bool s) ∧ W.cell? ⟨w.heap.size, 1, none⟩ = some (.slice A n c) ∧ W.cell? ⟨w.heap.size + 1, 0, none⟩ = some (.bool t) ∧ W.cell? ⟨w.heap.size + 1, 1, none⟩ = some (.slice D m d))
    (first
      | exact ⟨p0, p1, q0, q1⟩
      | exact ⟨cell_keep p0 b1, cell_keep p1 b1, cell_keep q0 b1, cell_keep q1 b1⟩
      | exact ⟨cell_keep (cell_keep p0 b1) b2, cell_keep (cell_keep p1 b1) b2, cell_keep (cell_keep q0 b1) b2, cell_keep (cell_keep q1 b1) b2⟩
      | exact ⟨cell_zset (cell_keep (cell_keep p0 b1) b2) (by simp; omega) _ _, cell_zset (cell_keep (cell_keep p1 b1) b2) (by simp; omega) _ _, cell_zset (cell_keep (cell_keep q0 b1) b2) (by simp) _ _, cell_zset (cell_keep (cell_keep q1 b1) b2) (by simp) _ _⟩)
    (first
      | (go_at_call 72; refine (mul_b (w := W0.drew) (by exact HU.out) (by exact HV.out) hL hM HK.out).mono ?_; rintro e w1 ⟨r, rfl, -, c1, b1⟩; have b1' := below_of_drew b1; obtain ⟨sg, A1, n1, c1', rfl, hsg, hcall⟩ := signed_fit (w0 := w) (s := s != t) c1 (HZ.out.step HS.out b1') (by omega) (HA.out.trans (b1'.mono HA.out.size)))
      | (go_at_call 71; refine hcall.mono ?_; rintro e w2 ⟨rfl, b2, k0, k1, f0, f1, fin⟩))
  all_goals
    have F := hide fin
    clear fin
    go_wp2_with fail
    exact bodyPost_ret (zret rfl _ _ _ #[.bool sg, .slice A1 n1 c1'] rfl rfl F.out.1) rfl F.out.2
def Zi (w : World) (v : Value) (z : Int) (L : Nat) : Prop := ∃ u, v = zv (decide (z < 0)) u ∧ Cw w u z.natAbs L
def Za (w : World) (v : Value) (z : Int) (L : Nat) : Prop := ∃ s u x, v = zv s u ∧ Nw w u x L ∧ zi s x = z
def ZRet (w : World) (z : Int) (L : Nat) (e : Ending) (w' : World) : Prop := ∃ v, e = .returned v ∧ Zi w' v z L ∧ Below w.heap.size w w'
theorem zi_abs (s : Bool) (x : Nat) : (zi s x).natAbs = x := by unfold zi; cases s <;> simp
theorem zi_neg (s : Bool) (x : Nat) : (s && decide (x ≠ 0)) = decide (zi s x < 0) := by
  unfold zi
  cases s
  · simp
  · simp only [Bool.true_and, if_true]
    by_cases h : x = 0
    · subst h; rfl
    · rw [decide_eq_true h, decide_eq_true (by omega)]
theorem Zc.zi {w : World} {v : Value} {s : Bool} {x L : Nat} {z : Int} (h : Zc w v s x L) (hz : zi s x = z) : Zi w v z L := by
  obtain ⟨u, rfl, hc⟩ := h
  subst hz
  exact ⟨u, by rw [zi_neg], by rw [zi_abs]; exact hc⟩
theorem ZNew.zret {w : World} {s : Bool} {x L : Nat} {z : Int} {e : Ending} {w' : World} (h : ZNew w s x L e w') (hz : zi s x = z) : ZRet w z L e w' := by
  obtain ⟨v, he, hc, hb⟩ := h
  exact ⟨v, he, hc.zi hz, hb⟩
theorem Zi.za {w : World} {v : Value} {z : Int} {L : Nat} (h : Zi w v z L) : Za w v z L := by
  obtain ⟨u, rfl, hc⟩ := h
  refine ⟨_, u, z.natAbs, rfl, hc.nw, ?_⟩
  unfold Go.Proofs.YtpfeacdhplbblaaGreat.zi
  by_cases hz : z < 0
  · rw [decide_eq_true hz]; simp only [if_true]; omega
  · rw [decide_eq_false hz]; simp only [Bool.false_eq_true, if_false]; omega
theorem Zi.step {w w' : World} {v : Value} {z : Int} {L : Nat} (h : Zi w v z L) (hb : Below w.heap.size w w') : Zi w' v z L := by
  obtain ⟨u, e, hc⟩ := h
  exact ⟨u, e, hc.step hb⟩
theorem Za.step {w w' : World} {v : Value} {z : Int} {L : Nat} (h : Za w v z L) (hb : Below w.heap.size w w') : Za w' v z L := by
  obtain ⟨s, u, x, e, hc, hz⟩ := h
  exact ⟨s, u, x, e, hc.step hb, hz⟩
theorem ret_fit {w0 w : World} {v : Value} {z : Int} {L g : Nat} (h : Zi w v z L) (hz : Zb w g) (hg0 : w0.heap.size ≤ g) (hb : Below w0.heap.size w0 w) :
    ∃ sg A n c, v = zv sg (.slice A n c) ∧ w.cell? ⟨g, 0, none⟩ = some (.bool false) ∧ w.cell? ⟨g, 1, none⟩ = some (.slice none 0 0) ∧ w.frozen? ⟨g, 0, none⟩ = false ∧ w.frozen? ⟨g, 1, none⟩ = false ∧
      (((w.setCell ⟨g, 0, none⟩ (.bool sg)).setCell ⟨g, 1, none⟩ (.slice A n c)).heap[g]? = some (.cells #[.bool sg, .slice A n c] 34 (0, 0)) ∧
        ZRet w0 z L (.returned (zv sg (.slice A n c))) ((w.setCell ⟨g, 0, none⟩ (.bool sg)).setCell ⟨g, 1, none⟩ (.slice A n c))) := by
  obtain ⟨u, rfl, hc⟩ := h
  obtain ⟨A, c, rfl, -⟩ := id hc
  exact ⟨_, A, _, c, rfl, hz.c0, hz.c1, hz.fz 0, hz.fz 1, hz.set _ _, _, rfl, ⟨_, rfl, hc.zset hz _ _⟩, (hb.setCell hg0 _).setCell hg0 _⟩
def cmpZ (a b : Int) : Int := if a < b then -1 else if b < a then 1 else 0
def zsg (z : Int) : Int := if z = 0 then 0 else if z < 0 then -1 else 1
theorem zsgn_zi (s : Bool) (x : Nat) : zsgn s x = zsg (zi s x) := by
  unfold zsgn zsg zi
  cases s <;> simp <;> split <;> first | rfl | omega | (split <;> first | rfl | omega)
theorem zsg_lt {a b : Int} (h : zsg a < zsg b) : cmpZ a b = -1 := by
  unfold zsg cmpZ at *
  split at h <;> split at h <;> first | omega | (rw [if_pos (by omega)]) | (split at h <;> first | omega | (rw [if_pos (by omega)]) | (split at h <;> first | omega | (rw [if_pos (by omega)])))
theorem zsg_gt {a b : Int} (h : zsg b < zsg a) : cmpZ a b = 1 := by
  have h1 := zsg_lt h
  unfold cmpZ at *
  split at h1
  · rw [if_neg (by omega), if_pos (by omega)]
  · split at h1 <;> omega
theorem zsg_eq {s t : Bool} {x y : Nat} (h : zsgn s x = zsgn t y) : zsgn s x * cmpN x y = cmpZ (zi s x) (zi t y) ∧ -1 ≤ zsgn s x * cmpN x y ∧ zsgn s x * cmpN x y ≤ 1 := by
  have key : zsgn s x * cmpN x y = cmpZ (zi s x) (zi t y) := by
    by_cases hx : x = 0
    · subst hx
      have hy : y = 0 := by
        unfold zsgn at h
        rw [if_pos rfl] at h
        by_cases hy : y = 0
        · exact hy
        · rw [if_neg hy] at h
          cases t <;> simp at h
      subst hy
      unfold zsgn cmpZ zi
      cases s <;> cases t <;> simp
    · have hy : y ≠ 0 := by
        rintro rfl
        unfold zsgn at h
        rw [if_neg hx, if_pos rfl] at h
        cases s <;> simp at h
      unfold zsgn at h ⊢
      rw [if_neg hx, if_neg hy] at h
      rw [if_neg hx]
      cases s <;> cases t <;> simp at h
      · unfold cmpZ zi cmpN
        simp only [Bool.false_eq_true, if_false]
        rcases Nat.lt_trichotomy x y with h1 | h1 | h1
        · rw [if_pos h1, if_pos (by omega)]; rfl
        · subst h1; simp
        · rw [if_neg (by omega), if_pos h1, if_neg (by omega), if_pos (by omega)]; rfl
      · unfold cmpZ zi cmpN
        simp only [if_true]
        rcases Nat.lt_trichotomy x y with h1 | h1 | h1
        · rw [if_pos h1, if_neg (by omega), if_pos (by omega)]; rfl
        · subst h1; simp
        · rw [if_neg (by omega), if_pos h1, if_pos (by omega)]; rfl
  refine ⟨key, ?_⟩
  rw [key]
  unfold cmpZ
  split
  · omega
  · split <;> omega
set_option maxHeartbeats 4000000 in
theorem zcmp_any {w : World} {u v : Value} {a b : Int} {L M : Nat} (hu : Za w u a L) (hv : Za w v b M) (hL : L ≤ 17592186044000) (hM : M ≤ 17592186044000) :
    Calls Tryz.prog 49 #[u, v] w fun e w' => e = .returned (.int .i64 (cmpZ a b)) ∧ Below w.heap.size w w' := by
  obtain ⟨s, u, x, rfl, hu, hx⟩ := hu
  obtain ⟨t, v, y, rfl, hv, hy⟩ := hv
  subst hx
  subst hy
  obtain ⟨A, n, c, rfl⟩ := hu.slice
  obtain ⟨D, m, d, rfl⟩ := hv.slice
  have a1 : Below w.heap.size w (w.alloc (zbox s (.slice A n c))) := (Below.refl _ _).alloc (Nat.le_refl _) _
  have a2 : Below w.heap.size w ((w.alloc (zbox s (.slice A n c))).alloc (zbox t (.slice D m d))) := a1.alloc (by simp) _
  have p0 : ((w.alloc (zbox s (.slice A n c))).alloc (zbox t (.slice D m d))).drew.cell? ⟨w.heap.size, 0, none⟩ = some (.bool s) := by go_simp
  have p1 : ((w.alloc (zbox s (.slice A n c))).alloc (zbox t (.slice D m d))).drew.cell? ⟨w.heap.size, 1, none⟩ = some (.slice A n c) := by go_simp
  have q0 : ((w.alloc (zbox s (.slice A n c))).alloc (zbox t (.slice D m d))).drew.cell? ⟨w.heap.size + 1, 0, none⟩ = some (.bool t) := by go_simp
  have q1 : ((w.alloc (zbox s (.slice A n c))).alloc (zbox t (.slice D m d))).drew.cell? ⟨w.heap.size + 1, 1, none⟩ = some (.slice D m d) := by go_simp
  have HU := hide (hu.step a2)
  have HV := hide (hv.step a2)
  have HA := hide a2
  obtain ⟨sa, hsa⟩ : ∃ sa, Hid (zsgn s x = sa) := ⟨_, hide rfl⟩
  obtain ⟨sb, hsb⟩ : ∃ sb, Hid (zsgn t y = sb) := ⟨_, hide rfl⟩
  obtain ⟨r, hr⟩ : ∃ r, Hid (cmpZ (zi s x) (zi t y) = r) := ⟨_, hide rfl⟩
  rw [hr.out]
  have hcases : (decide (sa < sb) = true ∧ r = -1) ∨ (decide (sa < sb) = false ∧ decide (sb < sa) = true ∧ r = 1) ∨ (decide (sa < sb) = false ∧ decide (sb < sa) = false ∧ ∃ k, Hid (cmpN x y = k) ∧ IntKind.i64.wrap (sa * k) = r) := by
    have e1 := hsa.out
    have e2 := hsb.out
    have e3 := hr.out
    rcases Int.lt_trichotomy sa sb with h | h | h
    · exact .inl ⟨decide_eq_true h, by rw [← e3]; exact zsg_lt (by rw [← zsgn_zi, ← zsgn_zi, e1, e2]; exact h)⟩
    · refine .inr (.inr ⟨decide_eq_false (by omega), decide_eq_false (by omega), _, hide rfl, ?_⟩)
      obtain ⟨h1, h2, h3⟩ := zsg_eq (s := s) (t := t) (x := x) (y := y) (by rw [e1, e2]; exact h)
      rw [e1] at h1 h2 h3
      rw [IntWalk.i64_in _ (by omega), h1, e3]
    · exact .inr (.inl ⟨decide_eq_false (by omega), decide_eq_true h, by rw [← e3]; exact zsg_gt (by rw [← zsgn_zi, ← zsgn_zi, e1, e2]; exact h)⟩)
  clear hu hv a1 a2 hr
  rcases hcases with ⟨t1, rfl⟩ | ⟨t1, t2, rfl⟩ | ⟨t1, t2, k, hk, ew⟩
  all_goals
    go_enter Tryz.func49, Tryz.ntmps49
    go_wp2_with fail
    generalize hW0 : (w.alloc (zbox s (.slice A n c))).alloc (zbox t (.slice D m d)) = W0 at *
    have S1 : Hid (Calls Tryz.prog 69 #[zv s (.slice A n c)] W0.drew fun e w' => e = .returned (.int .i64 sa) ∧ Below W0.drew.heap.size W0.drew w') := hide (by rw [← hsa.out]; exact sign_any (w := W0.drew) (s := s) HU.out hL)
    go_region_held3 (fun W => W.cell? ⟨w.heap.size, 0, none⟩ = some (.bool s) ∧ W.cell? ⟨w.heap.size, 1, none⟩ = some (.slice A n c) ∧ W.cell? ⟨w.heap.size + 1, 0, none⟩ = some (.bool t) ∧ W.cell? ⟨w.heap.size + 1, 1, none⟩ = some (.slice D m d))
      (first
        | exact ⟨p0, p1, q0, q1⟩
        | exact ⟨cell_keep p0 b1, cell_keep p1 b1, cell_keep q0 b1, cell_keep q1 b1⟩
        | exact ⟨cell_keep (cell_keep p0 b1) b2, cell_keep (cell_keep p1 b1) b2, cell_keep (cell_keep q0 b1) b2, cell_keep (cell_keep q1 b1) b2⟩)
      (first
        | (go_at_call 69; (with_reducible refine S1.out.mono ?_); rintro e w1 ⟨rfl, b1⟩; have S2 := hide (sign_any (w := w1) (s := t) (HV.out.step (below_of_drew b1)) hM))
        | (go_at_call 69; (with_reducible refine S2.out.mono ?_); rw [hsb.out]; rintro e w2 ⟨rfl, b2⟩))
    have B2 := hide (HA.out.trans (((below_of_drew b1).trans (b2.mono b1.size)).mono HA.out.size))
    have r1 := cell_keep (cell_keep p1 b1) b2
    have r2 := cell_keep (cell_keep q1 b1) b2
    have CM := hide (cmp_n ((HU.out.step (below_of_drew b1)).step b2) ((HV.out.step (below_of_drew b1)).step b2) (by omega) (by omega))
    clear p0 p1 q0 q1 b1 b2 S1 S2 HU HV HA hW0
    go_wp2_with (go_at_call 70; refine CM.out.mono ?_; rw [hk.out]; rintro e w3 ⟨rfl, rfl⟩)
    go_ret
    first | exact ⟨rfl, B2.out⟩ | exact ⟨by rw [← ew]; rfl, B2.out⟩
set_option maxHeartbeats 2000000 in
theorem zof_any (w : World) (z : Int) (h1 : -9223372036854775808 ≤ z) (h2 : z ≤ 9223372036854775807) :
    Calls Tryz.prog 58 #[.int .i64 z] w (ZRet w z 1) := by
  obtain ⟨m, hm⟩ : ∃ m, z.natAbs = m := ⟨_, rfl⟩
  have hmQ : m < Q := by unfold Q; omega
  have a1 : Below w.heap.size w (w.alloc zblk) := (Below.refl _ _).alloc (Nat.le_refl _) _
  have a2 : Below w.heap.size w ((w.alloc zblk).alloc (.cells #[.int .u64 (m : Int)] 62)) := a1.alloc (by simp) _
  have hz : Zb ((w.alloc zblk).alloc (.cells #[.int .u64 (m : Int)] 62)) w.heap.size := (Zb.new w).step (by simp) ((Below.refl _ _).alloc (Nat.le_refl _) _)
  have HS := hide (show w.heap.size < ((w.alloc zblk).alloc (.cells #[.int .u64 (m : Int)] 62)).heap.size by simp; omega)
  have hn : Nw ((w.alloc zblk).alloc (.cells #[.int .u64 (m : Int)] 62)) (.slice (some ⟨w.heap.size + 1, 0, none⟩) 1 1) m 1 := by
    have hr := Rd.lit1 .u64 (w.alloc zblk) 62 m
    refine ⟨some ⟨w.heap.size + 1, 0, none⟩, 1, 1, [m], rfl, ?_, Dg.cons hmQ Dg.nil, Nat.le_refl _, by simp [maxLen], by simp [vl], Nat.le_refl _⟩
    simpa using hr
  have hmk := hide (make_any (s := decide (z < 0)) hn (by omega))
  have hzz : Hid (zi (decide (z < 0)) m = z) := hide (by
    unfold zi
    by_cases h : z < 0
    · rw [decide_eq_true h]; simp only [if_true]; omega
    · rw [decide_eq_false h]; simp only [Bool.false_eq_true, if_false]; omega)
  have HA := hide a2
  have HZ := hide hz
  clear a1 a2 hz hn
  by_cases h0 : z < 0
  · have t1 : decide (z < 0) = true := decide_eq_true h0
    obtain ⟨k, hk⟩ : ∃ k : Nat, 18446744073709551616 - m = k := ⟨_, rfl⟩
    have e1 : IntKind.u64.wrap z = (k : Int) := by rw [IntKind.wrap_u64]; omega
    have e2 : IntKind.u64.wrap (-(k : Int)) = (m : Int) := by rw [IntKind.wrap_u64]; omega
    rw [t1] at hmk hzz
    have HZ2 := hide hzz.out
    clear hk hm hmQ hzz
    go_enter Tryz.func58, Tryz.ntmps58
    go_wp2_with fail
    refine hmk.out.mono ?_
    rintro e w1 ⟨r, rfl, c1, b1⟩
    have c2 := c1.zi HZ2.out
    obtain ⟨sg, A1, n1, c1', rfl, k0, k1, f0, f1, fin⟩ := ret_fit (w0 := w) c2 (HZ.out.step HS.out b1) (Nat.le_refl _) (HA.out.trans (b1.mono HA.out.size))
    have F := hide fin
    clear fin hmk b1 c1 c2 HZ HA HS
    go_wp2_with fail
    exact bodyPost_ret (zret rfl _ _ _ #[.bool sg, .slice A1 n1 c1'] rfl rfl F.out.1) rfl F.out.2
  · have t1 : decide (z < 0) = false := decide_eq_false h0
    have e1 : IntKind.u64.wrap z = (m : Int) := by rw [IntKind.wrap_u64]; omega
    rw [t1] at hmk hzz
    have HZ2 := hide hzz.out
    clear hm hmQ hzz
    go_enter Tryz.func58, Tryz.ntmps58
    go_wp2_with fail
    refine hmk.out.mono ?_
    rintro e w1 ⟨r, rfl, c1, b1⟩
    have c2 := c1.zi HZ2.out
    obtain ⟨sg, A1, n1, c1', rfl, k0, k1, f0, f1, fin⟩ := ret_fit (w0 := w) c2 (HZ.out.step HS.out b1) (Nat.le_refl _) (HA.out.trans (b1.mono HA.out.size))
    have F := hide fin
    clear fin hmk b1 c1 c2 HZ HA HS
    go_wp2_with fail
    exact bodyPost_ret (zret rfl _ _ _ #[.bool sg, .slice A1 n1 c1'] rfl rfl F.out.1) rfl F.out.2
theorem Cw.more {w : World} {v : Value} {x L M : Nat} (h : Cw w v x L) (hL : L ≤ M) : Cw w v x M := by
  obtain ⟨A, c, e, h1, h2, h3, h4⟩ := h
  exact ⟨A, c, e, h1, h2, h3, by omega⟩
-- behind XZint8: the region of the last return runs away (go_region_held3, more than 100 s, already where the signs are the same)
-- behind XZint9: the region of the last return runs away (go_region_held3, more than 100 s, already where the signs are the same)
end Go.Proofs.YtpfeacdhplbblaaGreat
