
/-
 Fractions and terms as elements of lists; what may be written over; rat's Add, Mul, Form with lengths that fit.
-/
import Derived.Test.YtehdkdoaamlkdaaGreatEl
import Derived.Test.YtehdkdoaamlkdaaGreatTm
import Derived.Test.YtehdkdoaamlkdaaGreatRown2


namespace Go.Proofs.YtehdkdoaamlkdaaGreat
open Go.RowKit Go.Proofs.YtehdkdoaamlkdaaGreat.Num
set_option linter.unusedVariables false
set_option linter.unusedSimpArgs false
set_option maxRecDepth 100000
abbrev Sl := Option Addr × Nat × Nat
abbrev sv (x : Sl) : Value := .slice x.1 x.2.1 x.2.2
structure Rx where
 s : Bool
 u : Sl
 t : Sl
 r : Rat
structure Tx where
 c : Int
 x : Rx
instance : Inhabited Rx := ⟨⟨false, (none, 0, 0), (none, 0, 0), 0⟩⟩
instance : Inhabited Tx := ⟨⟨0, default⟩⟩
def er (x : Rx) : List Value := [.bool x.s, sv x.u, sv x.t]
def et (x : Tx) : List Value := [.int .i64 x.c, .bool x.x.s, sv x.x.u, sv x.x.t]
theorem er_len (x : Rx) : (er x).length = 3 := rfl
abbrev rx (x : Rx) : Value := rv x.s (sv x.u) (sv x.t)
def Wr (W : World) (B : Nat) (x : Sl) : Prop := x.2.1 = 0 ∨ ∃ b off, x.1 = some ⟨b, off, none⟩ ∧ B ≤ b ∧ (∃ cs fz, W.heap[b]? = some (.cells cs 94 fz)) ∧ ∀ j, j < x.2.1 → (∃ z : Int, W.cell? ⟨b, off + j, none⟩ = some (.int .u64 z)) ∧ W.frozen? ⟨b, off + j, none⟩ = false
theorem Own.wr {W : World} {B : Nat} {A : Option Addr} {n c : Nat} {xs : List Nat} (h : Own .u64 94 W B (.slice A n c) xs) : Wr W B (A, n, c) := by
 rcases h with ⟨e, rfl⟩ | ⟨g, cap, C, e, hB, hr, r⟩
 ·cases e; exact .inl rfl
 ·cases e
  obtain ⟨cs, hh, -⟩ := id hr
  exact .inr ⟨g, 0, rfl, hB, ⟨cs, _, hh⟩, fun j hj => ⟨⟨_, hr.cell hj⟩, hr.frozen _⟩⟩
def Nu (W : World) (g : Nat) : Prop := ∃ cs T fz, W.heap[g]? = some (.cells cs T fz) ∧ ∀ (j : Nat) (z : Int), cs[j]? ≠ some (.int .u64 z)
theorem Rd.grownU {W W' : World} {A : Option Addr} {n g : Nat} {xs : List Nat} (h : Rd .u64 W W.heap.size A n xs) (hg : W.grownBy W' (some g)) (hn : Nu W g) : Rd .u64 W' W'.heap.size A n xs := by
 refine ⟨h.1, fun h0 => ?_⟩
 obtain ⟨b, off, e, hb, hc⟩ := h.2 h0
 have hne : b ≠ g := by
  rintro rfl
  obtain ⟨cs, T, fz, hh, hno⟩ := hn
  have h1 := hc 0 h0
  rw [Nat.add_zero, cell_of_row W b off cs T fz hh] at h1
  exact hno _ _ h1
 exact ⟨b, off, e, Nat.lt_of_lt_of_le hb hg.size, fun j hj => (World.cell?_of_block (hg.block b hb (fun e => hne (Option.some.inj e)))).trans (hc j hj)⟩
theorem Cw.grownU {W W' : World} {v : Value} {x L g : Nat} (h : Cw W v x L) (hg : W.grownBy W' (some g)) (hn : Nu W g) : Cw W' v x L := by
 obtain ⟨A, c, e, h1, h2⟩ := h
 exact ⟨A, c, e, h1.grownU hg hn, h2⟩
theorem Nw.grownU {W W' : World} {v : Value} {x L g : Nat} (h : Nw W v x L) (hg : W.grownBy W' (some g)) (hn : Nu W g) : Nw W' v x L := by
 obtain ⟨A, n, c, xs, e, h1, h2⟩ := h
 exact ⟨A, n, c, xs, e, h1.grownU hg hn, h2⟩
theorem Rc.grownU {W W' : World} {v : Value} {r : Rat} {L g : Nat} (h : Rc W v r L) (hg : W.grownBy W' (some g)) (hn : Nu W g) : Rc W' v r L := by
 obtain ⟨u, t, e, h1, h2⟩ := h
 exact ⟨u, t, e, h1.grownU hg hn, h2.grownU hg hn⟩
theorem Ra.grownU {W W' : World} {v : Value} {r : Rat} {L g : Nat} (h : Ra W v r L) (hg : W.grownBy W' (some g)) (hn : Nu W g) : Ra W' v r L := by
 obtain ⟨s, u, t, x, y, e, h1, h2, h3⟩ := h
 exact ⟨s, u, t, x, y, e, h1.grownU hg hn, h2.grownU hg hn, h3⟩
def Rg (W : World) (B : Nat) (x : Rx) (L : Nat) : Prop := Rc W (rx x) x.r L ∧ Wr W B x.u ∧ Wr W B x.t
theorem Rg.ra {W : World} {B L : Nat} {x : Rx} (h : Rg W B x L) : Ra W (rx x) x.r L := h.1.ra
def RgRet (w : World) (r : Rat) (L : Nat) (e : Ending) (w' : World) : Prop := ∃ x : Rx, e = .returned (rx x) ∧ x.r = r ∧ Rg w' w.heap.size x L ∧ Below w.heap.size w w'
theorem Ra.sz {w : World} {v : Value} {r : Rat} {L : Nat} (h : Ra w v r L) (h1 : 1 ≤ L) : Sz Q r L := by
 obtain ⟨s, A, n, c, D, m, d, x, y, rfl, hu, ht, rfl⟩ := h.parts
 obtain ⟨e1, e2⟩ := mk_num (s := s) (x := x) (dn_pos y)
 unfold Sz
 rw [e1, e2, zi_abs]
 exact ⟨Nat.lt_of_le_of_lt (Nat.div_le_self _ _) hu.lt, Nat.lt_of_le_of_lt (Nat.div_le_self _ _) (dn_lt ht.lt h1)⟩
theorem Cw.fit {w : World} {v : Value} {x L M : Nat} (h : Cw w v x L) (hx : x < Q ^ M) : Cw w v x M := by
 obtain ⟨A, c, e, h1, h2, h3, h4⟩ := h
 exact ⟨A, c, e, h1, h2, h3, cn_length_le Q_two hx⟩
theorem Rc.fit {w : World} {v : Value} {r : Rat} {L M : Nat} (h : Rc w v r L) (hr : Sz Q r M) : Rc w v r M := by
 obtain ⟨u, t, e, h1, h2⟩ := h
 exact ⟨u, t, e, h1.fit hr.1, h2.fit hr.2⟩
theorem Ra.more' {w : World} {v : Value} {r : Rat} {L M : Nat} (h : Ra w v r L) (hL : L ≤ M) : Ra w v r M := by
 obtain ⟨s, u, t, x, y, e, ⟨A, n, c, xs, e1, g1, g2, g3, g4, g5, g6⟩, ⟨D, m, f, ys, e2, k1, k2, k3, k4, k5, k6⟩, h3⟩ := h
 exact ⟨s, u, t, x, y, e, ⟨A, n, c, xs, e1, g1, g2, g3, g4, g5, Nat.le_trans g6 hL⟩, ⟨D, m, f, ys, e2, k1, k2, k3, k4, k5, Nat.le_trans k6 hL⟩, h3⟩
theorem RgRet.of {w : World} {r : Rat} {L M : Nat} {e : Ending} {w' : World} (h : RoRet w r L e w') (hs : Sz Q r M) : RgRet w r M e w' := by
 obtain ⟨s, u, t, rfl, hc, o1, o2, dj, hb⟩ := h
 obtain ⟨A, n, c, rfl⟩ := o1.slice
 obtain ⟨D, m, d, rfl⟩ := o2.slice
 exact ⟨⟨s, (A, n, c), (D, m, d), r⟩, rfl, rfl, ⟨hc.fit hs, o1.wr, o2.wr⟩, hb⟩
theorem add_g {w : World} {a b : Value} {r1 r2 : Rat} {L M : Nat} (ha : Ra w a r1 L) (hb : Ra w b r2 M) (h1 : 1 ≤ L) (h2 : 1 ≤ M) (hL : L ≤ 1000000000000) (hM : M ≤ 1000000000000) :
  Calls Tryz.prog 39 #[a, b] w (RgRet w (r1 + r2) (L + M + 1)) :=
 (radd_o (L := L + M) (ha.more' (by omega)) (hb.more' (by omega)) (by omega) (by omega)).mono fun e w' h => RgRet.of h (sz_add Q_two (ha.sz h1) (hb.sz h2))
theorem mul_g {w : World} {a b : Value} {r1 r2 : Rat} {L M : Nat} (ha : Ra w a r1 L) (hb : Ra w b r2 M) (h1 : 1 ≤ L) (h2 : 1 ≤ M) (hL : L ≤ 1000000000000) (hM : M ≤ 1000000000000) :
  Calls Tryz.prog 42 #[a, b] w (RgRet w (r1 * r2) (L + M)) :=
 (rmul_o (L := L + M) (ha.more' (by omega)) (hb.more' (by omega)) (by omega) (by omega)).mono fun e w' h => RgRet.of h (sz_mul (ha.sz h1) (hb.sz h2))
theorem form_g {w : World} {a : Value} {r : Rat} {L : Nat} (ha : Ra w a r L) (h1 : 1 ≤ L) (hL : L ≤ 1000000000000) :
  Calls Tryz.prog 67 #[a] w (RgRet w r L) := by
 have hs := ha.sz h1
 obtain ⟨s, A, n, c, D, m, d, x, y, rfl, hu, ht, rfl⟩ := ha.parts
 exact (rform_o hu ht h1 (by omega)).mono fun e w' h => RgRet.of h hs
def Tv (W : World) (v : Value) (d : List Tx) (L : Nat) : Prop := Lr et 4 W v d ∧ ∀ x ∈ d, Ra W (rx x.x) x.x.r L
def Fv (W : World) (v : Value) (d : List Rx) (L : Nat) : Prop := Lr er 3 W v d ∧ ∀ x ∈ d, Ra W (rx x) x.r L
theorem Fv.step {W W' : World} {v : Value} {d : List Rx} {L : Nat} (h : Fv W v d L) (hb : Below W.heap.size W W') : Fv W' v d L := ⟨h.1.step hb, fun x hx => (h.2 x hx).step hb⟩
end Go.Proofs.YtehdkdoaamlkdaaGreat
