/-
  Shared texts, one behind the other: Rat1, Rat2, Rat3, Rat4, Rat5, Rat6, Rat8, Lat, Rat7, Rat9, Rat10.
-/
import Derived.Test.YtpfeacdhplbblaaGreatBundleC
import Derived.Test.YtpfeacdhplbblaaGreatBundleE
import Derived.Deep.RegionHeld3
import Derived.Test.YtpfeacdhplbblaaGreatBundleD

namespace Go.Proofs.YtpfeacdhplbblaaGreat
open Go.RowKit Go.Proofs.YtpfeacdhplbblaaGreat.Num
set_option linter.unusedVariables false
set_option maxRecDepth 100000
abbrev rv (s : Bool) (u t : Value) : Value := .agg #[.bool s, u, t]
abbrev rblk : Obj := .cells #[.bool false, .slice none 0 0, .slice none 0 0] 36
abbrev rbox (s : Bool) (u t : Value) : Obj := .cells #[.bool s, u, t] 36
def Rc (w : World) (v : Value) (r : Rat) (L : Nat) : Prop := ∃ u t, v = rv (decide (r.num < 0)) u t ∧ Cw w u r.num.natAbs L ∧ Cw w t r.den L
def Ra (w : World) (v : Value) (r : Rat) (L : Nat) : Prop := ∃ s u t x y, v = rv s u t ∧ Nw w u x L ∧ Nw w t y L ∧ r = mkRat (zi s x) (if y = 0 then 1 else y)
def RRet (w : World) (r : Rat) (L : Nat) (e : Ending) (w' : World) : Prop := ∃ v, e = .returned v ∧ Rc w' v r L ∧ Below w.heap.size w w'
theorem Rc.step {w w' : World} {v : Value} {r : Rat} {L : Nat} (h : Rc w v r L) (hb : Below w.heap.size w w') : Rc w' v r L := by
  obtain ⟨u, t, e, h1, h2⟩ := h
  exact ⟨u, t, e, h1.step hb, h2.step hb⟩
theorem Ra.step {w w' : World} {v : Value} {r : Rat} {L : Nat} (h : Ra w v r L) (hb : Below w.heap.size w w') : Ra w' v r L := by
  obtain ⟨s, u, t, x, y, e, h1, h2, h3⟩ := h
  exact ⟨s, u, t, x, y, e, h1.step hb, h2.step hb, h3⟩
theorem zi_num (z : Int) : zi (decide (z < 0)) z.natAbs = z := by
  unfold zi
  by_cases h : z < 0
  · rw [decide_eq_true h]; simp only [if_true]; omega
  · rw [decide_eq_false h]; simp only [Bool.false_eq_true, if_false]; omega
theorem Rc.ra {w : World} {v : Value} {r : Rat} {L : Nat} (h : Rc w v r L) : Ra w v r L := by
  obtain ⟨u, t, e, h1, h2⟩ := h
  refine ⟨_, u, t, _, _, e, h1.nw, h2.nw, ?_⟩
  rw [zi_num, if_neg r.den_nz]
  exact (Rat.mkRat_self r).symm
theorem rret {fn : Func} {p : Tmp} (h : fn.results = #[.cell p 36]) (tmps : Array Value) (w : World) (g : Nat) (cs : Array Value) (hs : cs.size = 3)
    (hp : tmps.getD p undef = .pointer (some ⟨g, 0, none⟩)) (hg : w.heap[g]? = some (.cells cs 36 (0, 0))) : (results fn tmps).run Tryz.prog w = .ok (.agg cs) w :=
  results_cell_row h tmps w g 36 cs (0, 0) _ hp hg Tryz.underlying36 rfl (by rw [hs]; kernel_rfl)
theorem rret2 {fn : Func} {p q : Tmp} (h : fn.results = #[.cell p 36, .tmp q]) (tmps : Array Value) (w : World) (g : Nat) (cs : Array Value) (hs : cs.size = 3)
    (hp : tmps.getD p undef = .pointer (some ⟨g, 0, none⟩)) (hg : w.heap[g]? = some (.cells cs 36 (0, 0))) : (results fn tmps).run Tryz.prog w = .ok (.tuple #[.agg cs, tmps.getD q undef]) w := by
  rw [results_cell_tmp h, hp]
  simp [asAddr, run_loadVar_row (P := Tryz.prog) w g 36 36 cs (0, 0) _ hg Tryz.underlying36 rfl (by rw [hs]; kernel_rfl), Result.andThen]
def Rb (w : World) (g : Nat) : Prop := w.heap[g]? = some rblk
theorem Rb.new (w : World) : Rb (w.alloc rblk) w.heap.size := heap_alloc_new _ _
theorem Rb.lt {w : World} {g : Nat} (h : Rb w g) : g < w.heap.size := by have h1 := h; unfold Rb at h1; exact (Array.getElem?_eq_some_iff.1 h1).1
theorem Rb.step {w w' : World} {g : Nat} (h : Rb w g) (hb : Below w.heap.size w w') : Rb w' g := (hb.block g h.lt).trans h
theorem Rb.c0 {w : World} {g : Nat} (h : Rb w g) : w.cell? ⟨g, 0, none⟩ = some (.bool false) := cell_of_row w g 0 _ _ _ h
theorem Rb.c1 {w : World} {g : Nat} (h : Rb w g) : w.cell? ⟨g, 1, none⟩ = some (.slice none 0 0) := cell_of_row w g 1 _ _ _ h
theorem Rb.c2 {w : World} {g : Nat} (h : Rb w g) : w.cell? ⟨g, 2, none⟩ = some (.slice none 0 0) := cell_of_row w g 2 _ _ _ h
theorem Rb.fz {w : World} {g : Nat} (h : Rb w g) (j : Nat) : w.frozen? ⟨g, j, none⟩ = false := frozen_of_row w g j _ _ h
theorem Rb.set {w : World} {g : Nat} (h : Rb w g) (a b c : Value) : (((w.setCell ⟨g, 0, none⟩ a).setCell ⟨g, 1, none⟩ b).setCell ⟨g, 2, none⟩ c).heap[g]? = some (.cells #[a, b, c] 36 (0, 0)) :=
  heap_setCell_same _ g 2 _ _ c (heap_setCell_same _ g 1 _ _ b (heap_setCell_same w g 0 _ _ a h))
theorem Rd.rset {k : IntKind} {w : World} {B n g : Nat} {A : Option Addr} {xs : List Nat} {T : TypeId} (h : Rd k w B A n xs) (hz : w.heap[g]? = some (.cells #[.bool false, .slice none 0 0, .slice none 0 0] T (0, 0))) (a b c : Value) :
    Rd k (((w.setCell ⟨g, 0, none⟩ a).setCell ⟨g, 1, none⟩ b).setCell ⟨g, 2, none⟩ c) B A n xs := by
  refine ⟨h.1, fun hn => ?_⟩
  obtain ⟨bb, off, e, hb, hc⟩ := h.2 hn
  refine ⟨bb, off, e, hb, fun j hj => ?_⟩
  have hne : bb ≠ g := by
    rintro rfl
    have h1 := hc 0 hn
    rw [Nat.add_zero, cell_of_row w bb off _ _ _ hz] at h1
    match off, h1 with
    | 0, h1 => simp at h1
    | 1, h1 => simp at h1
    | 2, h1 => simp at h1
    | (k + 3), h1 => simp at h1
  rw [World.cell?_setCell_other _ _ _ _ (by intro h2; apply hne; injection h2 with h3; exact h3.symm), World.cell?_setCell_other _ _ _ _ (by intro h2; apply hne; injection h2 with h3; exact h3.symm), World.cell?_setCell_other _ _ _ _ (by intro h2; apply hne; injection h2 with h3; exact h3.symm)]
  exact hc j hj
theorem size_rset (w : World) (g : Nat) (a b c : Value) : (((w.setCell ⟨g, 0, none⟩ a).setCell ⟨g, 1, none⟩ b).setCell ⟨g, 2, none⟩ c).heap.size = w.heap.size := by simp only [World.size_setCell]
theorem Cw.rset {w : World} {v : Value} {x L g : Nat} {T : TypeId} (h : Cw w v x L) (hz : w.heap[g]? = some (.cells #[.bool false, .slice none 0 0, .slice none 0 0] T (0, 0))) (a b c : Value) : Cw (((w.setCell ⟨g, 0, none⟩ a).setCell ⟨g, 1, none⟩ b).setCell ⟨g, 2, none⟩ c) v x L := by
  obtain ⟨A, k, e, h1, h2⟩ := h
  exact ⟨A, k, e, by rw [size_rset]; exact h1.rset hz a b c, h2⟩
theorem mk_num {x y : Nat} {s : Bool} (hy : 0 < y) : (mkRat (zi s x) y).num = zi s (x / Nat.gcd x y) ∧ (mkRat (zi s x) y).den = y / Nat.gcd x y := by
  have hn : (zi s x).natAbs = x := zi_abs s x
  have hd : (Nat.gcd x y) ∣ x := Nat.gcd_dvd_left x y
  constructor
  · simp only [mkRat, Nat.ne_of_gt hy, dite_false, Rat.normalize_eq, hn]
    unfold zi
    cases s
    · simp only [Bool.false_eq_true, if_false]
      exact (Int.natCast_ediv x _).symm
    · simp only [if_true]
      rw [Int.neg_ediv_of_dvd (Int.natCast_dvd_natCast.2 hd), Int.natCast_ediv]
  · simp only [mkRat, Nat.ne_of_gt hy, dite_false, Rat.normalize_eq, hn]
def Fx (w : World) (g : Nat) (s : Bool) (A : Option Addr) (n c : Nat) (D : Option Addr) (m d : Nat) : Prop :=
  w.cell? ⟨g, 0, none⟩ = some (.bool s) ∧ w.cell? ⟨g, 1, none⟩ = some (.slice A n c) ∧ w.cell? ⟨g, 2, none⟩ = some (.slice D m d)
theorem Fx.step {w w' : World} {g : Nat} {s : Bool} {A : Option Addr} {n c : Nat} {D : Option Addr} {m d : Nat} (h : Fx w g s A n c D m d) (hb : Below w.heap.size w w') : Fx w' g s A n c D m d :=
  ⟨cell_keep h.1 hb, cell_keep h.2.1 hb, cell_keep h.2.2 hb⟩
theorem fbox1 (w : World) (s : Bool) (A : Option Addr) (n c : Nat) (D : Option Addr) (m d : Nat) :
    Below w.heap.size w (w.alloc (rbox s (.slice A n c) (.slice D m d))) ∧ Fx (w.alloc (rbox s (.slice A n c) (.slice D m d))) w.heap.size s A n c D m d := by
  refine ⟨(Below.refl _ _).alloc (Nat.le_refl _) _, ?_, ?_, ?_⟩ <;> go_simp
def dn (y : Nat) : Nat := if y = 0 then 1 else y
theorem dn_pos (y : Nat) : 0 < dn y := by unfold dn; split <;> omega
theorem dn_of {y : Nat} (h : y ≠ 0) : dn y = y := by unfold dn; rw [if_neg h]
set_option maxHeartbeats 2000000 in
theorem under_any {w : World} {s : Bool} {u t : Value} {x y L : Nat} (hu : Nw w u x L) (ht : Nw w t y L) (h1 : 1 ≤ L) (hL : L ≤ 17592186044000) :
    Calls Tryz.prog 40 #[rv s u t] w fun e w' => ∃ A n c, e = .returned (zv false (.slice A n c)) ∧ Nw w' (.slice A n c) (dn y) L ∧ Below w.heap.size w w' := by
  obtain ⟨A, n, c, rfl⟩ := hu.slice
  obtain ⟨D, m, d, rfl⟩ := ht.slice
  obtain ⟨b1, f1⟩ := fbox1 w s A n c D m d
  have b2 : Below w.heap.size w ((w.alloc (rbox s (.slice A n c) (.slice D m d))).alloc zblk) := b1.alloc (by simp) _
  have hz : Zb ((w.alloc (rbox s (.slice A n c) (.slice D m d))).alloc zblk) (w.heap.size + 1) := by have h := Zb.new (w.alloc (rbox s (.slice A n c) (.slice D m d))); simpa using h
  have p2 : ((w.alloc (rbox s (.slice A n c) (.slice D m d))).alloc zblk).cell? ⟨w.heap.size, 2, none⟩ = some (.slice D m d) := by go_simp
  have HT := hide (ht.step b2)
  have HB := hide b2
  have HZ := hide hz
  have HS := hide (show w.heap.size + 1 < ((w.alloc (rbox s (.slice A n c) (.slice D m d))).alloc zblk).heap.size by simp)
  obtain ⟨b, hb⟩ := isBits_ex y
  have NB := hide (nbits_s (ht.step b2) hb (by omega))
  have hb0 : y = 0 ↔ b = 0 := by
    constructor
    · intro h0; subst h0
      exact hb.one IsBits.zero
    · intro h0; subst h0
      have := hb.1
      omega
  have b3 : Below w.heap.size w ((w.alloc (rbox s (.slice A n c) (.slice D m d))).alloc (zbox false (.slice D m d))) := b1.alloc (by simp) _
  have hn : ((w.alloc (rbox s (.slice A n c) (.slice D m d))).alloc (zbox false (.slice D m d))).heap[w.heap.size + 1]? = some (.cells #[.bool false, .slice D m d] 34 (0, 0)) := by have h := heap_alloc_new (w.alloc (rbox s (.slice A n c) (.slice D m d))) (zbox false (.slice D m d)); simpa using h
  have HF := hide (And.intro hn (And.intro (ht.step b3) b3))
  clear hu ht b1 b2 hz f1 hb b3 hn
  by_cases hy : y = 0
  · obtain rfl : b = 0 := hb0.1 hy
    subst hy
    clear hb0
    go_enter Tryz.func40, Tryz.ntmps40
    go_wp2_with fail
    refine NB.out.mono ?_
    rintro e w' ⟨rfl, rfl⟩
    go_wp2_with fail
    generalize hW0 : (w.alloc (rbox s (.slice A n c) (.slice D m d))).alloc zblk = W0 at *
    refine (zof_any W0 1 (by omega) (by omega)).mono ?_
    rintro e w1 ⟨v, rfl, z1, b1⟩
    obtain ⟨sg, A1, n1, c1, rfl, k0, k1, f0, f1, fin⟩ := ret_fit (w0 := w) z1 (HZ.out.step HS.out b1) (by omega) (Below.step HB.out HB.out.size b1)
    have F := hide fin
    clear fin z1 b1 HZ HB HS HT NB p2 hW0 HF
    go_wp2_with fail
    refine bodyPost_ret (zret rfl _ _ _ #[.bool sg, .slice A1 n1 c1] rfl rfl F.out.1) rfl ?_
    obtain ⟨-, v, e, ⟨u2, e2, c2⟩, hb⟩ := F.out
    injection e with e
    rw [e2] at e
    injection e with e
    have e3 : sg = false ∧ Value.slice A1 n1 c1 = u2 := by simpa using e
    obtain ⟨rfl, rfl⟩ := e3
    exact ⟨A1, n1, c1, rfl, (c2.more h1).nw, hb⟩
  · have hbn : ((b : Int) == 0) = false := beq_eq_false_iff_ne.2 (by have := (not_congr hb0).1 hy; omega)
    have F := HF
    have HD := hide (dn_of hy)
    clear hb0 hy HZ HB HS HT HF
    go_enter Tryz.func40, Tryz.ntmps40
    go_wp2_with fail
    refine NB.out.mono ?_
    rintro e w' ⟨rfl, rfl⟩
    clear NB
    go_wp2_with fail
    refine bodyPost_ret (zret rfl _ _ _ #[.bool false, .slice D m d] rfl rfl F.out.1) rfl ?_
    exact ⟨D, m, d, rfl, by rw [HD.out]; exact F.out.2.1, F.out.2.2⟩
theorem cell_rset {W : World} {p : Addr} {v : Value} {g : Nat} (h : W.cell? p = some v) (hp : p.block ≠ g) (a b c : Value) : (((W.setCell ⟨g, 0, none⟩ a).setCell ⟨g, 1, none⟩ b).setCell ⟨g, 2, none⟩ c).cell? p = some v := by
  rw [World.cell?_setCell_other _ _ _ _ (by rintro rfl; exact hp rfl), World.cell?_setCell_other _ _ _ _ (by rintro rfl; exact hp rfl), World.cell?_setCell_other _ _ _ _ (by rintro rfl; exact hp rfl)]
  exact h
theorem Ra.parts {w : World} {v : Value} {r : Rat} {L : Nat} (h : Ra w v r L) : ∃ s A n c D m d x y, v = rv s (.slice A n c) (.slice D m d) ∧ Nw w (.slice A n c) x L ∧ Nw w (.slice D m d) y L ∧ r = mkRat (zi s x) (dn y) := by
  obtain ⟨s, u, t, x, y, rfl, h1, h2, h3⟩ := h
  obtain ⟨A, n, c, rfl⟩ := h1.slice
  obtain ⟨D, m, d, rfl⟩ := h2.slice
  exact ⟨s, A, n, c, D, m, d, x, y, rfl, h1, h2, h3⟩
theorem dn_lt {y L : Nat} (h : y < Q ^ L) (h1 : 1 ≤ L) : dn y < Q ^ L := by
  unfold dn
  split
  · exact Nat.lt_of_lt_of_le (show 1 < Q ^ 1 by rw [Nat.pow_one]; have := Q_two; omega) (Nat.pow_le_pow_right Q_pos h1)
  · exact h
theorem under_a {w : World} {s : Bool} {A D : Option Addr} {n c m d : Nat} {x y L : Nat} (hu : Nw w (.slice A n c) x L) (ht : Nw w (.slice D m d) y L) (h1 : 1 ≤ L) (hL : L ≤ 17592186044000) :
    Calls Tryz.prog 40 #[rv s (.slice A n c) (.slice D m d)] w fun e w' => ∃ v, e = .returned v ∧ Za w' v (dn y : Int) L ∧ Below w.heap.size w w' :=
  (under_any hu ht h1 hL).mono fun e w' ⟨A', n', c', he, hn, hb⟩ => ⟨_, he, ⟨false, _, _, rfl, hn, rfl⟩, hb⟩
theorem f_world1 (w : World) (s : Bool) (A D : Option Addr) (n c m d : Nat) :
    Below w.heap.size w ((w.alloc (rbox s (.slice A n c) (.slice D m d))).alloc rblk).drew ∧ Rb ((w.alloc (rbox s (.slice A n c) (.slice D m d))).alloc rblk).drew (w.heap.size + 1) ∧ Fx ((w.alloc (rbox s (.slice A n c) (.slice D m d))).alloc rblk).drew w.heap.size s A n c D m d := by
  refine ⟨below_drewN (((Below.refl _ _).alloc (Nat.le_refl _) _).alloc (by simp) _) 1, ?_, ?_, ?_, ?_⟩
  · have h := Rb.new (w.alloc (rbox s (.slice A n c) (.slice D m d)))
    have h2 : Rb ((w.alloc (rbox s (.slice A n c) (.slice D m d))).alloc rblk) (w.heap.size + 1) := by simpa using h
    exact h2
  all_goals go_simp
theorem lt_mk (p1 p2 : Int) (q1 q2 : Nat) (h1 : 0 < q1) (h2 : 0 < q2) : mkRat p1 q1 < mkRat p2 q2 ↔ p1 * q2 < p2 * q1 := by
  have c1 : (0 : Rat) < q1 := Rat.natCast_pos.2 h1
  have c2 : (0 : Rat) < q2 := Rat.natCast_pos.2 h2
  have e : ((p2 : Rat) / q2 * q1) = (p2 * q1) / q2 := by grind
  rw [Rat.mkRat_eq_div, Rat.mkRat_eq_div, Rat.div_lt_iff c1, e, Rat.lt_div_iff c2]
  rw [← Rat.intCast_natCast, ← Rat.intCast_natCast, ← Rat.intCast_mul, ← Rat.intCast_mul, Rat.intCast_lt_intCast]
def cmpR (a b : Rat) : Int := if a < b then -1 else if b < a then 1 else 0
theorem cmpR_mk (p1 p2 : Int) (q1 q2 : Nat) (h1 : 0 < q1) (h2 : 0 < q2) : cmpZ (p1 * q2) (p2 * q1) = cmpR (mkRat p1 q1) (mkRat p2 q2) := by
  unfold cmpZ cmpR
  simp only [lt_mk p1 p2 q1 q2 h1 h2, lt_mk p2 p1 q2 q1 h2 h1]
theorem prod_lt {a b : Int} {L : Nat} (ha : a.natAbs < Q ^ L) (hb : b.natAbs < Q ^ L) : (a * b).natAbs < Q ^ (2 * L) := by
  rw [Int.natAbs_mul, show 2 * L = L + L by omega, Nat.pow_add]
  exact Nat.mul_lt_mul'' ha hb
theorem f_world0 (w : World) (s t : Bool) (A D F H : Option Addr) (n c m d k f l h : Nat) :
    Below w.heap.size w ((w.alloc (rbox s (.slice A n c) (.slice D m d))).alloc (rbox t (.slice F k f) (.slice H l h))).drew ∧ Fx ((w.alloc (rbox s (.slice A n c) (.slice D m d))).alloc (rbox t (.slice F k f) (.slice H l h))).drew w.heap.size s A n c D m d ∧ Fx ((w.alloc (rbox s (.slice A n c) (.slice D m d))).alloc (rbox t (.slice F k f) (.slice H l h))).drew (w.heap.size + 1) t F k f H l h := by
  refine ⟨below_drewN (((Below.refl _ _).alloc (Nat.le_refl _) _).alloc (by simp) _) 1, ⟨?_, ?_, ?_⟩, ?_, ?_, ?_⟩ <;> go_simp
set_option maxHeartbeats 4000000 in
theorem cmp_r {w : World} {a b : Value} {r1 r2 : Rat} {L : Nat} (ha : Ra w a r1 L) (hb : Ra w b r2 L) (h1 : 1 ≤ L) (hL : 2 * L ≤ 17592186044000) :
    Calls Tryz.prog 31 #[a, b] w fun e w' => e = .returned (.int .i64 (cmpR r1 r2)) ∧ Below w.heap.size w w' := by
  obtain ⟨s, A, n, c, D, m, d, x, y, rfl, hu, ht, rfl⟩ := ha.parts
  obtain ⟨t, F, k, f, H, l, h, z, v, rfl, hv, hw, rfl⟩ := hb.parts
  have px : (zi s x).natAbs < Q ^ L := by rw [zi_abs]; exact hu.lt
  have pz : (zi t z).natAbs < Q ^ L := by rw [zi_abs]; exact hv.lt
  have py : ((dn y : Nat) : Int).natAbs < Q ^ L := by rw [Int.natAbs_natCast]; exact dn_lt ht.lt h1
  have pv : ((dn v : Nat) : Int).natAbs < Q ^ L := by rw [Int.natAbs_natCast]; exact dn_lt hw.lt h1
  have KP := hide (prod_lt px pv)
  have KQ := hide (prod_lt pz py)
  have HC := hide (cmpR_mk (zi s x) (zi t z) (dn y) (dn v) (dn_pos y) (dn_pos v))
  obtain ⟨b2, ⟨p0, p1, p2⟩, q0, q1, q2⟩ := f_world0 w s t A D F H n c m d k f l h
  have nu : Nw ((w.alloc (rbox s (.slice A n c) (.slice D m d))).alloc (rbox t (.slice F k f) (.slice H l h))).drew (.slice A n c) x L := hu.step b2
  have nt : Nw ((w.alloc (rbox s (.slice A n c) (.slice D m d))).alloc (rbox t (.slice F k f) (.slice H l h))).drew (.slice D m d) y L := ht.step b2
  have nv : Nw ((w.alloc (rbox s (.slice A n c) (.slice D m d))).alloc (rbox t (.slice F k f) (.slice H l h))).drew (.slice F k f) z L := hv.step b2
  have nw : Nw ((w.alloc (rbox s (.slice A n c) (.slice D m d))).alloc (rbox t (.slice F k f) (.slice H l h))).drew (.slice H l h) v L := hw.step b2
  have za : Za ((w.alloc (rbox s (.slice A n c) (.slice D m d))).alloc (rbox t (.slice F k f) (.slice H l h))).drew (zv s (.slice A n c)) (zi s x) L := Za.of nu
  have zb : Za ((w.alloc (rbox s (.slice A n c) (.slice D m d))).alloc (rbox t (.slice F k f) (.slice H l h))).drew (zv t (.slice F k f)) (zi t z) L := Za.of nv
  have B := hide b2
  clear ha hb hu ht hv hw b2 px pz py pv
  obtain ⟨o, ho⟩ : ∃ o, cmpR (mkRat (zi s x) (dn y)) (mkRat (zi t z) (dn v)) = o := ⟨_, rfl⟩
  rw [ho] at HC ⊢
  clear ho
  go_enter Tryz.func31, Tryz.ntmps31
  go_wp2_with fail
  generalize hW0 : ((w.alloc (rbox s (.slice A n c) (.slice D m d))).alloc (rbox t (.slice F k f) (.slice H l h))) = W0 at *
  go_region_held3 (fun W => W.cell? ⟨w.heap.size, 0, none⟩ = some (.bool s) ∧ W.cell? ⟨w.heap.size, 1, none⟩ = some (.slice A n c) ∧ W.cell? ⟨w.heap.size, 2, none⟩ = some (.slice D m d) ∧ W.cell? ⟨w.heap.size + 1, 0, none⟩ = some (.bool t) ∧ W.cell? ⟨w.heap.size + 1, 1, none⟩ = some (.slice F k f) ∧ W.cell? ⟨w.heap.size + 1, 2, none⟩ = some (.slice H l h))
    (first | with_reducible exact ⟨p0, p1, p2, q0, q1, q2⟩ | (refine ⟨?_, ?_, ?_, ?_, ?_, ?_⟩ <;> (repeat (first | (with_reducible assumption) | (with_reducible refine cell_keep ?_ (by with_reducible assumption)) | (with_reducible refine cell_rset ?_ (by simp <;> omega) _ _ _)))))
    (first
        | (go_at_call 40; refine Calls.mono (under_a (x := x) (y := y) (L := L) ?_ ?_ h1 (by omega)) ?_; (focus ((repeat (first | (with_reducible assumption) | (with_reducible refine Nw.step ?_ (by with_reducible assumption)))); done)); (focus ((repeat (first | (with_reducible assumption) | (with_reducible refine Nw.step ?_ (by with_reducible assumption)))); done)); rintro e wx ⟨vx, rfl, tx, bx⟩)
        | (go_at_call 40; refine Calls.mono (under_a (x := z) (y := v) (L := L) ?_ ?_ h1 (by omega)) ?_; (focus ((repeat (first | (with_reducible assumption) | (with_reducible refine Nw.step ?_ (by with_reducible assumption)))); done)); (focus ((repeat (first | (with_reducible assumption) | (with_reducible refine Nw.step ?_ (by with_reducible assumption)))); done)); rintro e wx ⟨vx, rfl, tx, bx⟩)
        | (go_at_call 50; refine Calls.mono (zmul_a (a := zi s x) (b := (dn v : Int)) (L := L) (M := L) (K := 2 * L) ?_ ?_ (by omega) (by omega) KP.out) ?_; (focus ((repeat (first | (with_reducible assumption) | (with_reducible refine Za.step ?_ (by with_reducible assumption)))); done)); (focus ((repeat (first | (with_reducible assumption) | (with_reducible refine Za.step ?_ (by with_reducible assumption)))); done)); rintro e wx ⟨vx, rfl, tx, bx⟩; replace tx := Zi.za tx)
        | (go_at_call 50; refine Calls.mono (zmul_a (a := zi t z) (b := (dn y : Int)) (L := L) (M := L) (K := 2 * L) ?_ ?_ (by omega) (by omega) KQ.out) ?_; (focus ((repeat (first | (with_reducible assumption) | (with_reducible refine Za.step ?_ (by with_reducible assumption)))); done)); (focus ((repeat (first | (with_reducible assumption) | (with_reducible refine Za.step ?_ (by with_reducible assumption)))); done)); rintro e wx ⟨vx, rfl, tx, bx⟩; replace tx := Zi.za tx)
        | (go_at_call 49; refine Calls.mono (zcmp_any (a := zi s x * (dn v : Int)) (b := zi t z * (dn y : Int)) (L := 2 * L) (M := 2 * L) ?_ ?_ hL hL) ?_; (focus ((repeat (first | (with_reducible assumption) | (with_reducible refine Za.step ?_ (by with_reducible assumption)))); done)); (focus ((repeat (first | (with_reducible assumption) | (with_reducible refine Za.step ?_ (by with_reducible assumption)))); done)); rw [HC.out]; rintro e wx ⟨rfl, bx⟩))
  all_goals
    have st : Below W0.drew.heap.size W0.drew wx := (by (repeat (first | (with_reducible assumption) | (with_reducible refine Below.step1 ?_ (by with_reducible assumption)))))
    have Fin := hide (Below.step B.out B.out.size st)
    clear st
    go_wp2_with fail
    go_ret
    exact ⟨rfl, Fin.out⟩
theorem Zb.lt {w : World} {g : Nat} (h : Zb w g) : g < w.heap.size := by have h1 := h; unfold Zb at h1; exact (Array.getElem?_eq_some_iff.1 h1).1
def St (n0 : Nat) (W0 W : World) (A B : Bool) (gA gB : Nat) (F : World → Prop) : Prop :=
  Below n0 W0 W ∧ n0 ≤ W.heap.size ∧ F W ∧ (A = true → Zb W gA ∧ n0 ≤ gA) ∧ (B = true → Zb W gB ∧ n0 ≤ gB) ∧ (A = true → B = true → gA ≠ gB)
set_option linter.unusedSimpArgs false

end Go.Proofs.YtpfeacdhplbblaaGreat
