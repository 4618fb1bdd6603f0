
/-
  Fractions and terms as elements of lists; what may be written over; rat's Add, Mul, Form with lengths that fit.
-/
import Derived.Test.YtpfeacdhplbblaaGreatEl
import Derived.Test.YtpfeacdhplbblaaGreatTm
import Derived.Test.YtpfeacdhplbblaaGreatRown2


namespace Go.Proofs.YtpfeacdhplbblaaGreat
open Go.RowKit Go.Proofs.YtpfeacdhplbblaaGreat.Num
set_option linter.unusedVariables false
set_option linter.unusedSimpArgs false
set_option maxRecDepth 100000
abbrev Sl := Option Addr × Nat × Nat
abbrev sv (x : Sl) : Value := .slice x.1 x.2.1 x.2.2
structure Rx where
  s : Bool
  u : Sl
  t : Sl
  r : Rat
structure Tx where
  c : Int
  x : Rx
instance : Inhabited Rx := ⟨⟨false, (none, 0, 0), (none, 0, 0), 0⟩⟩
instance : Inhabited Tx := ⟨⟨0, default⟩⟩
def er (x : Rx) : List Value := [.bool x.s, sv x.u, sv x.t]
def et (x : Tx) : List Value := [.int .i64 x.c, .bool x.x.s, sv x.x.u, sv x.x.t]
abbrev rx (x : Rx) : Value := rv x.s (sv x.u) (sv x.t)
def Wr (W : World) (B : Nat) (x : Sl) : Prop := x.2.1 = 0 ∨ ∃ b off, x.1 = some ⟨b, off, none⟩ ∧ B ≤ b ∧ (∃ cs fz, W.heap[b]? = some (.cells cs 62 fz)) ∧ ∀ j, j < x.2.1 → (∃ z : Int, W.cell? ⟨b, off + j, none⟩ = some (.int .u64 z)) ∧ W.frozen? ⟨b, off + j, none⟩ = false
theorem blk_lt {W : World} {b : Nat} {T : TypeId} (h : ∃ cs fz, W.heap[b]? = some (.cells cs T fz)) : b < W.heap.size := by
  obtain ⟨cs, fz, h⟩ := h
  exact (Array.getElem?_eq_some_iff.1 h).1
theorem Wr.step {W W' : World} {B : Nat} {x : Sl} (h : Wr W B x) (hb : Below W.heap.size W W') : Wr W' B x := by
  rcases h with h | ⟨b, off, e, hB, hlt, hc⟩
  · exact .inl h
  · have hlb := blk_lt hlt
    refine .inr ⟨b, off, e, hB, by rw [hb.block b hlb]; exact hlt, fun j hj => ?_⟩
    obtain ⟨⟨z, h1⟩, h2⟩ := hc j hj
    exact ⟨⟨z, (hb.cell hlb).trans h1⟩, by unfold World.frozen? at h2 ⊢; rw [hb.block b hlb]; exact h2⟩
theorem Wr.mono {W : World} {B B' : Nat} {x : Sl} (h : Wr W B x) (hB : B' ≤ B) : Wr W B' x := by
  rcases h with h | ⟨b, off, e, hB2, r⟩
  · exact .inl h
  · exact .inr ⟨b, off, e, by omega, r⟩
theorem Own.wr {W : World} {B : Nat} {A : Option Addr} {n c : Nat} {xs : List Nat} (h : Own .u64 62 W B (.slice A n c) xs) : Wr W B (A, n, c) := by
  rcases h with ⟨e, rfl⟩ | ⟨g, cap, C, e, hB, hr, r⟩
  · cases e; exact .inl rfl
  · cases e
    obtain ⟨cs, hh, -⟩ := id hr
    exact .inr ⟨g, 0, rfl, hB, ⟨cs, _, hh⟩, fun j hj => ⟨⟨_, hr.cell hj⟩, hr.frozen _⟩⟩
def Nu (W : World) (g : Nat) : Prop := ∃ cs T fz, W.heap[g]? = some (.cells cs T fz) ∧ ∀ (j : Nat) (z : Int), cs[j]? ≠ some (.int .u64 z)
theorem Wr.grown {W W' : World} {B g : Nat} {x : Sl} (h : Wr W B x) (hg : W.grownBy W' (some g)) (hn : Nu W g) : Wr W' B x := by
  rcases h with h | ⟨b, off, e, hB, hlt, hc⟩
  · exact .inl h
  · by_cases h0 : x.2.1 = 0
    · exact .inl h0
    · have hne : b ≠ g := by
        rintro rfl
        obtain ⟨cs, T, fz, hh, hno⟩ := hn
        obtain ⟨⟨z, h1⟩, _⟩ := hc 0 (by omega)
        rw [Nat.add_zero, cell_of_row W b off cs T fz hh] at h1
        exact hno _ _ h1
      have hk := hg.block b (blk_lt hlt) (fun e => hne (Option.some.inj e))
      refine .inr ⟨b, off, e, hB, by rw [hk]; exact hlt, fun j hj => ?_⟩
      obtain ⟨⟨z, h1⟩, h2⟩ := hc j hj
      exact ⟨⟨z, (World.cell?_of_block hk).trans h1⟩, by unfold World.frozen? at h2 ⊢; rw [hk]; exact h2⟩
theorem Rd.grownU {W W' : World} {A : Option Addr} {n g : Nat} {xs : List Nat} (h : Rd .u64 W W.heap.size A n xs) (hg : W.grownBy W' (some g)) (hn : Nu W g) : Rd .u64 W' W'.heap.size A n xs := by
  refine ⟨h.1, fun h0 => ?_⟩
  obtain ⟨b, off, e, hb, hc⟩ := h.2 h0
  have hne : b ≠ g := by
    rintro rfl
    obtain ⟨cs, T, fz, hh, hno⟩ := hn
    have h1 := hc 0 h0
    rw [Nat.add_zero, cell_of_row W b off cs T fz hh] at h1
    exact hno _ _ h1
  exact ⟨b, off, e, Nat.lt_of_lt_of_le hb hg.size, fun j hj => (World.cell?_of_block (hg.block b hb (fun e => hne (Option.some.inj e)))).trans (hc j hj)⟩
theorem Cw.grownU {W W' : World} {v : Value} {x L g : Nat} (h : Cw W v x L) (hg : W.grownBy W' (some g)) (hn : Nu W g) : Cw W' v x L := by
  obtain ⟨A, c, e, h1, h2⟩ := h
  exact ⟨A, c, e, h1.grownU hg hn, h2⟩
theorem Rc.grownU {W W' : World} {v : Value} {r : Rat} {L g : Nat} (h : Rc W v r L) (hg : W.grownBy W' (some g)) (hn : Nu W g) : Rc W' v r L := by
  obtain ⟨u, t, e, h1, h2⟩ := h
  exact ⟨u, t, e, h1.grownU hg hn, h2.grownU hg hn⟩
def Rg (W : World) (B : Nat) (x : Rx) (L : Nat) : Prop := Rc W (rx x) x.r L ∧ Wr W B x.u ∧ Wr W B x.t
theorem Rg.step {W W' : World} {B L : Nat} {x : Rx} (h : Rg W B x L) (hb : Below W.heap.size W W') : Rg W' B x L := ⟨h.1.step hb, h.2.1.step hb, h.2.2.step hb⟩
theorem Rg.mono {W : World} {B B' L : Nat} {x : Rx} (h : Rg W B x L) (hB : B' ≤ B) : Rg W B' x L := ⟨h.1, h.2.1.mono hB, h.2.2.mono hB⟩
theorem Rg.grown {W W' : World} {B L g : Nat} {x : Rx} (h : Rg W B x L) (hg : W.grownBy W' (some g)) (hn : Nu W g) : Rg W' B x L := ⟨h.1.grownU hg hn, h.2.1.grown hg hn, h.2.2.grown hg hn⟩
theorem Rg.ra {W : World} {B L : Nat} {x : Rx} (h : Rg W B x L) : Ra W (rx x) x.r L := h.1.ra
def Ot (W : World) (g : Nat) : Prop := ∃ cs T fz, W.heap[g]? = some (.cells cs T fz) ∧ T ≠ 62
theorem Wr.ne {W : World} {B g : Nat} {x : Sl} (h : Wr W B x) (hn : Ot W g) (h0 : 0 < x.2.1) : ∀ A, x.1 = some A → A.block ≠ g := by
  rcases h with h | ⟨b, off, e, hB, ⟨cs, fz, hh⟩, hc⟩
  · omega
  · intro A hA
    rw [e] at hA
    injection hA with hA
    subst hA
    rintro rfl
    obtain ⟨cs', T, fz', hh', hT⟩ := hn
    rw [hh] at hh'
    injection hh' with hh'
    injection hh' with _ e2 _
    exact hT e2.symm
theorem Cw.grownF {W W' : World} {A : Option Addr} {n c x L : Nat} {row : Option Nat} (h : Cw W (.slice A n c) x L) (hg : W.grownBy W' row) (hn : 0 < n → ∀ B, A = some B → some B.block ≠ row) : Cw W' (.slice A n c) x L := by
  obtain ⟨D, m, e, ⟨h1, h3⟩, h2⟩ := h
  injection e with e1 e2 e3
  subst e1 e2 e3
  refine ⟨A, c, rfl, ⟨h1, fun h0 => ?_⟩, h2⟩
  obtain ⟨b, off, e, hb, hc⟩ := h3 h0
  exact ⟨b, off, e, Nat.lt_of_lt_of_le hb hg.size, fun j hj => (World.cell?_of_block (hg.block b hb (hn h0 _ e))).trans (hc j hj)⟩
theorem Wr.grownF {W W' : World} {B : Nat} {x : Sl} {row : Option Nat} (h : Wr W B x) (hg : W.grownBy W' row) (hn : 0 < x.2.1 → ∀ B, x.1 = some B → some B.block ≠ row) : Wr W' B x := by
  by_cases h0 : x.2.1 = 0
  · exact .inl h0
  · rcases h with h | ⟨b, off, e, hB, hlt, hc⟩
    · exact .inl h
    · have hk := hg.block b (blk_lt hlt) (hn (by omega) _ e)
      refine .inr ⟨b, off, e, hB, by rw [hk]; exact hlt, fun j hj => ?_⟩
      obtain ⟨⟨z, h1⟩, h2⟩ := hc j hj
      exact ⟨⟨z, (World.cell?_of_block hk).trans h1⟩, by unfold World.frozen? at h2 ⊢; rw [hk]; exact h2⟩
theorem Rg.grownT {W W' : World} {B L : Nat} {x : Rx} {row : Option Nat} (h : Rg W B x L) (hg : W.grownBy W' row) (hn : ∀ g, row = some g → Ot W g) : Rg W' B x L := by
  have n1 : 0 < x.u.2.1 → ∀ B, x.u.1 = some B → some B.block ≠ row := fun h0 A hA e => h.2.1.ne (hn _ e.symm) h0 A hA rfl
  have n2 : 0 < x.t.2.1 → ∀ B, x.t.1 = some B → some B.block ≠ row := fun h0 A hA e => h.2.2.ne (hn _ e.symm) h0 A hA rfl
  refine ⟨?_, h.2.1.grownF hg n1, h.2.2.grownF hg n2⟩
  obtain ⟨u, t, e, h1, h2⟩ := h.1
  injection e with e
  have e3 := congrArg Array.toList e
  simp at e3
  obtain ⟨e4, rfl, rfl⟩ := e3
  exact ⟨_, _, by rw [← e4], h1.grownF hg n1, h2.grownF hg n2⟩
def RgRet (w : World) (r : Rat) (L : Nat) (e : Ending) (w' : World) : Prop := ∃ x : Rx, e = .returned (rx x) ∧ x.r = r ∧ Rg w' w.heap.size x L ∧ Below w.heap.size w w'
theorem Ra.sz {w : World} {v : Value} {r : Rat} {L : Nat} (h : Ra w v r L) (h1 : 1 ≤ L) : Sz Q r L := by
  obtain ⟨s, A, n, c, D, m, d, x, y, rfl, hu, ht, rfl⟩ := h.parts
  obtain ⟨e1, e2⟩ := mk_num (s := s) (x := x) (dn_pos y)
  unfold Sz
  rw [e1, e2, zi_abs]
  exact ⟨Nat.lt_of_le_of_lt (Nat.div_le_self _ _) hu.lt, Nat.lt_of_le_of_lt (Nat.div_le_self _ _) (dn_lt ht.lt h1)⟩
theorem Cw.fit {w : World} {v : Value} {x L M : Nat} (h : Cw w v x L) (hx : x < Q ^ M) : Cw w v x M := by
  obtain ⟨A, c, e, h1, h2, h3, h4⟩ := h
  exact ⟨A, c, e, h1, h2, h3, cn_length_le Q_two hx⟩
theorem Rc.fit {w : World} {v : Value} {r : Rat} {L M : Nat} (h : Rc w v r L) (hr : Sz Q r M) : Rc w v r M := by
  obtain ⟨u, t, e, h1, h2⟩ := h
  exact ⟨u, t, e, h1.fit hr.1, h2.fit hr.2⟩
theorem Rg.fit {W : World} {B : Nat} {x : Rx} {L M : Nat} (h : Rg W B x L) (hr : Sz Q x.r M) : Rg W B x M := ⟨h.1.fit hr, h.2⟩
theorem RgRet.of {w : World} {r : Rat} {L M : Nat} {e : Ending} {w' : World} (h : RoRet w r L e w') (hs : Sz Q r M) : RgRet w r M e w' := by
  obtain ⟨s, u, t, rfl, hc, o1, o2, dj, hb⟩ := h
  obtain ⟨A, n, c, rfl⟩ := o1.slice
  obtain ⟨D, m, d, rfl⟩ := o2.slice
  exact ⟨⟨s, (A, n, c), (D, m, d), r⟩, rfl, rfl, ⟨hc.fit hs, o1.wr, o2.wr⟩, hb⟩
theorem form_g {w : World} {a : Value} {r : Rat} {L : Nat} (ha : Ra w a r L) (h1 : 1 ≤ L) (hL : L ≤ 1000000000000) :
    Calls Tryz.prog 24 #[a] w (RgRet w r L) := by
  have hs := ha.sz h1
  obtain ⟨s, A, n, c, D, m, d, x, y, rfl, hu, ht, rfl⟩ := ha.parts
  exact (rform_o hu ht h1 (by omega)).mono fun e w' h => RgRet.of h hs
def Tv (W : World) (v : Value) (d : List Tx) (L : Nat) : Prop := Lr et 4 W v d ∧ ∀ x ∈ d, Ra W (rx x.x) x.x.r L
end Go.Proofs.YtpfeacdhplbblaaGreat
