/-
  Shared texts, one behind the other: Mat15, Mat16, Mat17, Mat18, Mat19, Mat20, Mat21, Mat22, Mat23.
-/
import Derived.Test.YtieicmcbdhaipaaGreatBundleK
import Derived.Test.YtieicmcbdhaipaaGreatBundleJ
import Derived.Test.YtieicmcbdhaipaaGreatFl
import Derived.Deep.DeepCutAuto
import Derived.Deep.CutBlock
import Derived.BigGuardPart
import Derived.Deep.QuietTactic
import Derived.BigQuiet

/-
  Sums over sums: a product of rows times a list; the columns of a product.
-/

namespace Go.Proofs.YtieicmcbdhaipaaGreat
open Go.RowKit Go.Proofs.YtieicmcbdhaipaaGreat.Num
set_option linter.unusedVariables false
set_option linter.unusedSimpArgs false
set_option maxRecDepth 100000

theorem smx_mul (n : Nat) (a : Rat) (f : Nat → Rat) : sm n (fun i => a * f i) = a * sm n f := by
  induction n with
  | zero => simp [sm, Rat.mul_zero]
  | succ n ih => simp only [sm, ih]; grind
theorem smx_add (n : Nat) (f g : Nat → Rat) : sm n (fun i => f i + g i) = sm n f + sm n g := by
  induction n with
  | zero => simp [sm, Rat.add_zero]
  | succ n ih => simp only [sm, ih]; grind
theorem sm_dt (n : Nat) (F : Int → Int → Rat) (z : Int → Rat) : ∀ ts : List Tm, sm n (fun c => dt ts (fun i => F i (c : Int)) * z (c : Int)) = dt ts (fun i => sm n (fun c => F i (c : Int) * z (c : Int)))
  | [] => by
    simp only [dt]
    rw [sm_congr (g := fun _ => 0) (fun i _ => Rat.zero_mul _), sm_zero]
  | t :: ts => by
    simp only [dt]
    rw [← sm_dt n F z ts, ← smx_mul, ← smx_add]
    exact sm_congr (fun i _ => by grind)
/-- A product's row times a list. -/
theorem dt_prod {ts o : List Tm} {b : List Vx} {z : Int → Rat} (n : Nat) (hz : ∀ c, c < 0 ∨ (n : Int) ≤ c → z c = 0) (ho : ∀ c, 0 ≤ c → gsum o c = dt ts (fun i => gsum (rwA b i) c)) : dt o z = dt ts (fun i => dt (rwA b i) z) := by
  rw [dt_sum o n z hz, sm_congr (g := fun c => dt ts (fun i => gsum (rwA b i) (c : Int)) * z (c : Int)) (fun c _ => by rw [gt, if_pos (by omega), ho _ (by omega)])]
  rw [sm_dt n (fun i c => gsum (rwA b i) c) z ts]
  congr 1
  funext i
  rw [dt_sum (rwA b i) n z hz]
  exact sm_congr (fun c _ => by rw [gt, if_pos (by omega)])
theorem pw_len {n : Int} : ∀ (ts : List Tm) (a : Int), ts.Pairwise (fun a b => a.1 < b.1) → (∀ t ∈ ts, a ≤ t.1 ∧ t.1 < n) → (ts.length : Int) ≤ max 0 (n - a)
  | [], a, _, _ => by simp; omega
  | t :: ts, a, h, hb => by
    have h1 := List.pairwise_cons.1 h
    have h2 := hb t (by simp)
    have ih := pw_len ts (t.1 + 1) h1.2 (fun x hx => ⟨by have := h1.1 x hx; omega, (hb x (by simp [hx])).2⟩)
    rw [List.length_cons]
    omega
theorem fm_len {ts : List Tm} (h : Fm ts) {n : Nat} (hz : ∀ i : Int, (n : Int) ≤ i → gsum ts i = 0) : ts.length ≤ n := by
  have := pw_len (n := (n : Int)) ts 0 h.1 (fun t ht => by
    obtain ⟨h1, h2⟩ := fm_at h ht
    refine ⟨h2, ?_⟩
    rcases Int.lt_or_le t.1 (n : Int) with h3 | h3
    · exact h3
    · rw [hz _ h3] at h1
      exact absurd h1.symm (h.2 t ht).2)
  omega
/-- The columns of a product are the product of the columns, turned about. -/
theorem prod_cols {m b p s : List Vx} {i c : Int} (hi : 0 ≤ i) (hc : 0 ≤ c) {yc : List Tm}
    (hp : p.length = m.length) (hpr : ∀ (j : Nat) x y, m[j]? = some x → p[j]? = some y → ∀ c, 0 ≤ c → gsum (tms y.d) c = dt (tms x.d) (fun i => gsum (rwA b i) c))
    (hs : s.length = b.length) (hsr : ∀ (k : Nat) y, s[k]? = some y → ∀ i : Int, 0 ≤ i → gsum (tms y.d) i = gsum (rwA m i) (k : Int))
    (ht : ∀ k : Int, 0 ≤ k → gsum yc k = gsum (rwA b k) c) : gsum (rwA p i) c = dt yc (fun k => gsum (rwA s k) i) := by
  rw [dt_rows (m := s) (y := fun k => gsum (rwA b k) c) ht i, hs]
  have h2 : sm b.length (fun k => gsum (rwA b (k : Int)) c * gsum (rwA s (k : Int)) i) = sm b.length (fun k => gsum (rwA m i) (k : Int) * gsum (rwA b (k : Int)) c) := sm_congr (fun k hk => by
    obtain ⟨y, hy⟩ := len_of (d := s) (k := k) (by omega)
    rw [rwA_in hy, hsr k y hy i hi, Rat.mul_comm])
  rw [h2]
  by_cases hin : i < (m.length : Int)
  · have e : i = ((i.toNat : Nat) : Int) := by omega
    obtain ⟨x, hx⟩ := len_of (d := m) (k := i.toNat) (by omega)
    obtain ⟨y, hy⟩ := len_of (d := p) (k := i.toNat) (by omega)
    rw [e, rwA_in hx, rwA_in hy, hpr _ x y hx hy c hc]
    exact dt_rows (m := b) (y := gsum (tms x.d)) (fun _ _ => rfl) c
  · rw [rwA_out m i (.inr (by omega)), rwA_out p i (.inr (by omega))]
    have e0 : ∀ k : Int, gsum [] k = 0 := fun _ => rfl
    rw [sm_congr (g := fun _ => 0) (fun k _ => by rw [e0, Rat.zero_mul]), sm_zero]
    rfl
/-- The size of a product's numbers. -/
theorem sz_prod {W : World} {v u : Value} {m b : List Vx} (hv : Mv W v m 6) (hu : Mv W u b 6) (hm : ∀ x ∈ m, x.d.length ≤ 30) (hb : ∀ x ∈ b, x.d.length ≤ 30) (hl : b.length ≤ 12) {x : Vx} (hx : x ∈ m) (c : Int) : Sz Q (dt (tms x.d) (fun i => gsum (rwA b i) c)) 5077 := by
  rw [dt_rows (m := b) (y := gsum (tms x.d)) (fun _ _ => rfl) c]
  have hx6 := tsz (hv.2 x hx) (by omega)
  have hd := hm x hx
  refine (sz_rows (K := 211) (L := 6) (N := 30) (y := gsum (tms x.d)) (by omega) (fun i => (sz_gsum (B := Q) Q_two i hx6).more Q_pos (by rw [tms_len]; omega)) (fun i => rwA_szs hu hb (by omega) i) c b.length).more Q_pos (by
    have := Nat.mul_le_mul_right 423 hl
    omega)
end Go.Proofs.YtieicmcbdhaipaaGreat

/-
  mat.Product and mat.Transpose with bounds that fit what follows them.
-/

namespace Go.Proofs.YtieicmcbdhaipaaGreat
open Go.RowKit Go.Proofs.YtieicmcbdhaipaaGreat.Num
set_option linter.unusedVariables false
set_option linter.unusedSimpArgs false
set_option maxRecDepth 100000

/-- A row of a product. -/
def PrR (b : List Vx) (x y : Vx) : Prop := Fm (tms y.d) ∧ ∀ c, 0 ≤ c → gsum (tms y.d) c = dt (tms x.d) (fun i => gsum (rwA b i) c)
theorem product6 {w : World} {v u : Value} {m b : List Vx} (hv : Mv w v m 6) (hu : Mv w u b 6) (hm : ∀ x ∈ m, x.d.length ≤ 30) (hb : ∀ x ∈ b, x.d.length ≤ 30) (hml : m.length ≤ 12) (hbl : b.length ≤ 12) :
    Calls Tryz.prog 72 #[v, u] w fun e w' => ∃ A n c m', e = .returned (.slice A n c) ∧ Mg w' w.heap.size (.slice A n c) m' 5077 ∧ m'.length = m.length ∧ (∀ x ∈ m', x.d.length ≤ 900) ∧ (∀ (j : Nat) x y, m[j]? = some x → m'[j]? = some y → PrR b x y) ∧ Below w.heap.size w w' := by
  refine (product_m (N1 := 30) (N := 30) (P := 391) (Q := 352801) hv hu hm hb (fun q hq => by omega) (by omega) (by omega) (by omega) (by omega) (by omega) (by omega) (by omega) (by omega) (by omega) (by omega)).mono ?_
  rintro e w' ⟨v', m', rfl, o, s, bx⟩
  obtain ⟨A, n, c, rfl⟩ := rv_sl (o.rl em_len)
  have hg := s.mg o
  have hr : ∀ y ∈ m', ∃ x ∈ m, PrOk b 30 x y := fun y hy => by
    obtain ⟨j, hj⟩ := List.getElem?_of_mem hy
    obtain ⟨x, hx⟩ := len_of (d := m) (k := j) (by rw [← s.1]; exact (List.getElem?_eq_some_iff.1 hj).1)
    exact ⟨x, List.mem_of_getElem? hx, s.rel hx hj⟩
  refine ⟨A, n, c, m', rfl, ⟨o, fun y hy => ?_⟩, s.1, fun y hy => ?_, fun j x y hx hy => ⟨(s.rel hx hy).1, (s.rel hx hy).2.1⟩, bx⟩
  · obtain ⟨x, hx, h1, h2, h3⟩ := hr y hy
    exact (hg.2 y hy).fitS h1 (fun c hc => by rw [h2 c hc]; exact sz_prod hv hu hm hb hbl hx c)
  · obtain ⟨x, hx, h1, h2, h3⟩ := hr y hy
    have := hm x hx
    have := Nat.mul_le_mul_right 30 this
    omega
/-- A column. -/
def TrR (m : List Vx) (m' : List Vx) : Prop := ∀ (c : Nat) y, m'[c]? = some y → Fm (tms y.d) ∧ (∀ i : Int, 0 ≤ i → gsum (tms y.d) i = gsum (rwA m i) (c : Int)) ∧ y.d.length ≤ m.length
/-- What Transpose answers: a list and an error's number. -/
def TrS (m : List Vx) (n : Int) (W : World) (B P : Nat) (v : Value) (z : Int) (m' : List Vx) : Prop :=
  (z = 2 ∧ TrBad m n) ∨ (z = 0 ∧ ¬ TrBad m n ∧ Mg W B v m' P ∧ (m'.length : Int) = n ∧ TrR m m')
theorem transpose_s {w : World} {v : Value} {m : List Vx} {L N P : Nat} {n : Int} (hv : Mv w v m L) (hN : ∀ x ∈ m, x.d.length ≤ N) (hNN : N ≤ 1000) (hm : m.length ≤ 1000) (h1 : 1 ≤ L) (hL : L ≤ 100000) (hP : N * (L + 1) + 1 ≤ P) :
    Calls Tryz.prog 67 #[v, .int .i64 n] w fun e w' => ∃ A k c z m', e = .returned (.tuple #[.slice A k c, .int .i64 z]) ∧ TrS m n w' w.heap.size P (.slice A k c) z m' ∧ Below w.heap.size w w' := by
  refine (transpose_m (n := n) hv hN hNN hm h1 hL hP).mono ?_
  rintro e w' ⟨bx, (⟨h, rfl⟩ | ⟨h, v', m', rfl, o, hl, hr, -⟩)⟩
  · exact ⟨none, 0, 0, 2, [], rfl, .inl ⟨rfl, h⟩, bx⟩
  · obtain ⟨A, k, c, rfl⟩ := rv_sl (o.rl em_len)
    refine ⟨A, k, c, 0, m', rfl, .inr ⟨rfl, h, ⟨o, fun y hy => ?_⟩, hl, fun c y hy => ⟨(hr c y hy).1, (hr c y hy).2.1, ?_⟩⟩, bx⟩
    · obtain ⟨j, hj⟩ := List.getElem?_of_mem hy
      exact (hr j y hj).2.2.2
    · have := fm_len (hr c y hy).1 (n := m.length) (fun i hi => by
        rw [(hr c y hy).2.1 i (by omega), rwA_out m i (.inr hi)]
        rfl)
      rw [tms_len] at this
      exact this
/-- A product's places are the second's. -/
theorem prod_bad {m b p : List Vx} {n : Int} (hp : p.length = m.length) (hr : ∀ (j : Nat) x y, m[j]? = some x → p[j]? = some y → PrR b x y) (h : ¬ TrBad b n) : ¬ TrBad p n := by
  intro hb
  rcases hb with ⟨y, hy, c, h1, h2, h3⟩ | hb
  · refine h (.inl ?_)
    obtain ⟨j, hj⟩ := List.getElem?_of_mem hy
    obtain ⟨x, hx⟩ := len_of (d := m) (k := j) (by rw [← hp]; exact (List.getElem?_eq_some_iff.1 hj).1)
    have h4 := (hr j x y hx hj).2 c h2
    rw [dt_rows (m := b) (y := gsum (tms x.d)) (fun _ _ => rfl) c] at h4
    by_cases hall : ∀ z ∈ b, gsum (tms z.d) c = 0
    · exfalso
      refine h3 ?_
      rw [h4, sm_congr (g := fun _ => 0) (fun k hk => ?_), sm_zero]
      obtain ⟨z, hz⟩ := len_of (d := b) (k := k) hk
      rw [rwA_in hz, hall z (List.mem_of_getElem? hz), Rat.mul_zero]
    · have : ∃ z ∈ b, gsum (tms z.d) c ≠ 0 := by
        apply Classical.byContradiction
        intro hn
        exact hall (fun z hz => Classical.byContradiction (fun h0 => hn ⟨z, hz, h0⟩))
      obtain ⟨z, hz, h0⟩ := this
      exact ⟨z, hz, c, h1, h2, h0⟩
  · exact h (.inr hb)
theorem xf_times {b : List Vx} {l f : List Rx} (hl : l.length = b.length) (h : ∀ (j : Nat) x, l[j]? = some x → x.r = dt (rwA b (j : Int)) (xf f)) : xf l = fun i => dt (rwA b i) (xf f) := by
  funext i
  by_cases hi : i < 0 ∨ (b.length : Int) ≤ i
  · rw [xf_out l i (by omega), rwA_out b i hi]
    rfl
  · have e : i = ((i.toNat : Nat) : Int) := by omega
    obtain ⟨x, hx⟩ := len_of (d := l) (k := i.toNat) (by omega)
    rw [e, xf_in hx, h _ x hx]
/-- (A times B) times x = A times (B times x). -/
theorem groups_eq {m b p : List Vx} {f l8 l9 l10 : List Rx} (hp : p.length = m.length) (hr : ∀ (j : Nat) x y, m[j]? = some x → p[j]? = some y → PrR b x y)
    (n8 : l8.length = p.length) (h8 : ∀ (j : Nat) x, l8[j]? = some x → x.r = dt (rwA p (j : Int)) (xf f)) (n9 : l9.length = b.length) (h9 : ∀ (j : Nat) x, l9[j]? = some x → x.r = dt (rwA b (j : Int)) (xf f))
    (n10 : l10.length = m.length) (h10 : ∀ (j : Nat) x, l10[j]? = some x → x.r = dt (rwA m (j : Int)) (xf l9)) : l8.map Rx.r = l10.map Rx.r := by
  apply List.ext_getElem?
  intro j
  by_cases hj : j < m.length
  · obtain ⟨x, hx⟩ := len_of (d := l8) (k := j) (by omega)
    obtain ⟨y, hy⟩ := len_of (d := l10) (k := j) (by omega)
    obtain ⟨xm, hm⟩ := len_of (d := m) (k := j) hj
    obtain ⟨yp, hyp⟩ := len_of (d := p) (k := j) (by omega)
    rw [List.getElem?_map, List.getElem?_map, hx, hy, Option.map_some, Option.map_some, h8 j x hx, h10 j y hy, rwA_in hm, rwA_in hyp, xf_times n9 h9]
    rw [dt_prod f.length (fun c hc => xf_out f c hc) (hr j xm yp hm hyp).2]
  · rw [List.getElem?_eq_none (by rw [List.length_map]; omega), List.getElem?_eq_none (by rw [List.length_map]; omega)]
/-- The columns of a product. -/
theorem cols_eq {m b p s t u q : List Vx} (hp : p.length = m.length) (hr : ∀ (j : Nat) x y, m[j]? = some x → p[j]? = some y → PrR b x y)
    (hs : (s.length : Int) = (b.length : Int)) (sr : TrR m s) (tr : TrR b t) (ur : TrR p u) (qr : ∀ (j : Nat) x y, t[j]? = some x → q[j]? = some y → PrR s x y) (hq : q.length = t.length) :
    ∀ (c : Nat) x y, u[c]? = some x → q[c]? = some y → tms x.d = tms y.d := by
  intro c x y hx hy
  obtain ⟨tc, htc⟩ := len_of (d := t) (k := c) (by rw [← hq]; exact (List.getElem?_eq_some_iff.1 hy).1)
  have h1 := ur c x hx
  have h2 := qr c tc y htc hy
  refine Fm.unique h1.1 h2.1 (fun i hi => ?_)
  rw [h1.2.1 i hi, h2.2 i hi]
  exact prod_cols (m := m) (b := b) hi (by omega) hp (fun j x y hx hy => (hr j x y hx hy).2) (by omega) (fun k y hy => (sr k y hy).2.1) (fun k hk => (tr c tc htc).2.1 k hk)
end Go.Proofs.YtieicmcbdhaipaaGreat

/-
  Lists of whole numbers; mat.places.
-/

namespace Go.Proofs.YtieicmcbdhaipaaGreat
open Go.RowKit Go.Proofs.YtieicmcbdhaipaaGreat.Num
set_option linter.unusedVariables false
set_option linter.unusedSimpArgs false
set_option maxRecDepth 100000

def ei (z : Int) : List Value := [.int .i64 z]
theorem ei_len (z : Int) : (ei z).length = 1 := rfl
theorem info_i6 : (Tryz.prog.info? 3).map (fun i => (i.zero, i.size, i.bytes)) = some (some (.int .i64 0), 1, 8) := by kernel_rfl
theorem made_i (w : World) (B n : Nat) (hB : B ≤ w.heap.size) (hn : n ≤ 100000000) :
    Ow 3 ei 1 (w.alloc (.cells (madeCells #[.int .i64 0] (n * 1)) 3)) B (.slice (some ⟨w.heap.size, 0, none⟩) n n) (List.replicate n 0) := by
  have h := Ow.lit (B := B) ei_len w 3 (List.replicate n 0) (madeCells #[.int .i64 0] (n * 1)) (made_flat (enc := ei) ei_len (by omega) 0 n) hB (by simp [maxLen]; omega)
  simpa using h
theorem make_i6 (n : Nat) (hn : n ≤ 100000000) (W : World) : (Instr.makeSlice 30 (.int .i64 (n : Int)) (.int .i64 (n : Int))).run Tryz.prog W = .ok (.slice (some ⟨W.heap.size, 0, none⟩) n n) (W.alloc (.cells (madeCells #[.int .i64 0] (n * 1)) 3)) := by
  obtain ⟨i, hi, hz0, hz1, hz2⟩ := info_parts info_i6
  have h := run_make (P := Tryz.prog) W 30 3 i _ Tryz.underlying30 hi hz0 .i64 .i64 (n : Int) (n : Int) (by omega) (Int.le_refl _) (by rw [hz2]; omega) (by omega)
  rw [hz1, Int.toNat_natCast] at h
  exact h
theorem flat_seti : ∀ (d : List Int) (i : Nat) (x : Int), i < d.length → (flat ei d).set i (.int .i64 x) = flat ei (d.set i x)
  | [], i, x, h => by simp at h
  | y :: d, 0, x, _ => by simp [flat, ei]
  | y :: d, i + 1, x, h => by
    have ih := flat_seti d i x (by simpa using h)
    rw [List.set_cons_succ, flat, flat, ← ih]
    simp only [ei, List.cons_append, List.nil_append, List.set_cons_succ]
theorem own_leni {W : World} {B g n c : Nat} {d : List Int} (h : Ow 3 ei 1 W B (.slice (some ⟨g, 0, none⟩) n c) d) : n = d.length := by
  rcases h.form with ⟨e, _⟩ | ⟨g', cap, cur, e, _⟩
  · cases e
  · injection e
theorem Ow.puti {W : World} {B g n c i : Nat} {d : List Int} (h : Ow 3 ei 1 W B (.slice (some ⟨g, 0, none⟩) n c) d) (hi : i < d.length) (x : Int) :
    Ow 3 ei 1 (W.setCell ⟨g, i, none⟩ (.int .i64 x)) B (.slice (some ⟨g, 0, none⟩) n c) (d.set i x) := by
  have hn := own_leni h
  subst hn
  have h1 := World.ownsRow.stored (show W.ownsRow B _ 1 _ d.length _ from h) i (.int .i64 x)
  have h2 := h1.1
  rw [flat_seti d i x hi] at h2
  unfold Ow
  rw [List.length_set]
  exact h2
theorem Ow.cellsi {W : World} {B g n c i : Nat} {d : List Int} {x : Int} (h : Ow 3 ei 1 W B (.slice (some ⟨g, 0, none⟩) n c) d) (hi : d[i]? = some x) :
    W.cell? ⟨g, i, none⟩ = some (.int .i64 x) ∧ W.frozen? ⟨g, i, none⟩ = false := by
  obtain ⟨b, off, e, hb, hc⟩ := (h.rl ei_len).get hi
  injection e with e
  injection e with e1 e2
  subst e1 e2
  have c0 := hc 0 _ rfl
  rw [Nat.zero_add, Nat.add_zero, Nat.mul_one] at c0
  exact ⟨c0, h.frozen rfl _⟩
/-- An order of its length. -/
def Ord (d : List Int) : Prop := (∀ (i : Nat) z, d[i]? = some z → 0 ≤ z ∧ z < (d.length : Int)) ∧ ∀ (i j : Nat) z, d[i]? = some z → d[j]? = some z → i = j
/-- The first k of them are. -/
def OrdK (d : List Int) (k : Nat) : Prop := (∀ (i : Nat) z, i < k → d[i]? = some z → 0 ≤ z ∧ z < (d.length : Int)) ∧ ∀ (i j : Nat) z, i < k → j < k → d[i]? = some z → d[j]? = some z → i = j
theorem OrdK.all {d : List Int} {k : Nat} (h : OrdK d k) (hk : d.length ≤ k) : Ord d :=
  ⟨fun i z hz => h.1 i z (Nat.lt_of_lt_of_le (List.getElem?_eq_some_iff.1 hz).1 hk) hz, fun i j z hi hj => h.2 i j z (Nat.lt_of_lt_of_le (List.getElem?_eq_some_iff.1 hi).1 hk) (Nat.lt_of_lt_of_le (List.getElem?_eq_some_iff.1 hj).1 hk) hi hj⟩
/-- Where each of them stands, of the first k; -1: nowhere. -/
def Plc (d : List Int) (k : Nat) (cur : List Int) : Prop := cur.length = d.length ∧ ∀ (n : Nat) z, cur[n]? = some z → (z = -1 ∧ ∀ p, p < k → d[p]? ≠ some (n : Int)) ∨ ∃ p : Nat, p < k ∧ z = (p : Int) ∧ d[p]? = some (n : Int)
theorem Plc.put {d cur : List Int} {k n : Nat} {z : Int} (h : Plc d k cur) (hk : OrdK d k) (hd : d[k]? = some (n : Int)) (hn : cur[n]? = some z) (hz : ¬ 0 ≤ z) : Plc d (k + 1) (cur.set n (k : Int)) ∧ OrdK d (k + 1) := by
  have hnone : ∀ p, p < k → d[p]? ≠ some (n : Int) := by
    rcases h.2 n z hn with ⟨_, h1⟩ | ⟨p, _, h2, _⟩
    · exact h1
    · omega
  have hnl := (List.getElem?_eq_some_iff.1 hn).1
  refine ⟨⟨by rw [List.length_set]; exact h.1, fun j y hy => ?_⟩, fun i y hi hy => ?_, fun i j y hi hj h1 h2 => ?_⟩
  · by_cases e : j = n
    · subst e
      rw [List.getElem?_set_self hnl] at hy
      injection hy with hy
      exact .inr ⟨k, by omega, hy.symm, hd⟩
    · rw [List.getElem?_set_ne (fun h => e h.symm)] at hy
      rcases h.2 j y hy with ⟨h1, h2⟩ | ⟨p, h1, h2, h3⟩
      · refine .inl ⟨h1, fun p hp => ?_⟩
        by_cases ep : p = k
        · subst ep
          rw [hd]
          intro hq
          injection hq with hq
          omega
        · exact h2 p (by omega)
      · exact .inr ⟨p, by omega, h2, h3⟩
  · by_cases e : i = k
    · subst e
      rw [hd] at hy
      injection hy with hy
      subst hy
      have := h.1
      omega
    · exact hk.1 i y (by omega) hy
  · by_cases ei : i = k
    · by_cases ej : j = k
      · omega
      · subst ei
        rw [hd] at h1
        injection h1 with h1
        subst h1
        exact absurd h2 (hnone j (by omega))
    · by_cases ej : j = k
      · subst ej
        rw [hd] at h2
        injection h2 with h2
        subst h2
        exact absurd h1 (hnone i (by omega))
      · exact hk.2 i j y (by omega) (by omega) h1 h2

set_option maxHeartbeats 8000000 in
theorem places_m {w : World} {v : Value} {d : List Int} (hv : Lr ei 1 w v d) (hd : d.length ≤ 1000) :
    Calls Tryz.prog 129 #[v] w fun e w' => Below w.heap.size w w' ∧ ((¬ Ord d ∧ e = .returned (.tuple #[.slice none 0 0, .bool false])) ∨
      (Ord d ∧ ∃ g n c tq, e = .returned (.tuple #[.slice (some ⟨g, 0, none⟩) n c, .bool true]) ∧ Ow 3 ei 1 w' w.heap.size (.slice (some ⟨g, 0, none⟩) n c) tq ∧ Plc d d.length tq)) := by
  obtain ⟨A, c, e1, hc1, hc2, hc3⟩ := id hv
  obtain ⟨q, hlen⟩ : ∃ q, q = d.length := ⟨_, rfl⟩
  rw [← hlen] at e1 hc1 hd
  subst e1
  have HV := hide hv
  have HN := hide hlen
  unfold maxLen at hc2
  have hmk := make_i6 q (by omega) w
  have O1 := hide (made_i w w.heap.size q (Nat.le_refl _) (by omega))
  have BA := hide (alloc_below w (.cells (madeCells #[.int .i64 0] (q * 1)) 3))
  generalize madeCells #[.int .i64 0] (q * 1) = Z at *
  have hpx : q ≤ 9223372036854775807 := by omega
  have hpz : (0 : Int) ≤ (q : Int) := by omega
  clear hv hc3 hlen
  go_enter Tryz.func129, Tryz.ntmps129
  go_wp2_with fail
  clear hmk
  generalize (w.alloc (.cells Z 3)) = w2 at *
  go_loopw [13] (fun iv wr => ∃ (k : Nat) (cur : List Int), k ≤ q ∧ iv = .int .i64 (k : Int) ∧ cur.length = q ∧ Hid (Below w.heap.size w wr) ∧ Hid (Ow 3 ei 1 wr w.heap.size (.slice (some ⟨w.heap.size, 0, none⟩) q q) cur) ∧ Hid (∀ (j : Nat) z, j < k → cur[j]? = some z → z = -1)) (fun iv _ => q - (intOf iv).toNat)
  case atStart => exact ⟨0, _, Nat.zero_le _, rfl, by simp, BA, O1, hide (fun j z hj => by omega)⟩
  case round =>
    obtain ⟨k, cur, hk, rfl, hcl, B, O, S⟩ := hrel
    by_cases hlt : k < q
    · obtain ⟨y, hy⟩ := len_of (d := cur) (k := k) (by omega)
      obtain ⟨e0, f0⟩ := O.out.cellsi hy
      have hg : wr.grownBy (wr.setCell ⟨w.heap.size, k, none⟩ (.int .i64 (-1))) (some w.heap.size) := only_set (p := ⟨w.heap.size, k, none⟩) (only_refl wr _) rfl _
      have O6 := hide (O.out.puti (i := k) (by omega) (-1))
      have B6 := hide (show Below w.heap.size w _ from (B.out.grown hg B.out.size (fun g e => by injection e with e; subst e; exact (O.out.lt rfl).1)))
      have S6 := hide (show ∀ (j : Nat) z, j < k + 1 → (cur.set k (-1))[j]? = some z → z = -1 from fun j z hj hz => by
        by_cases e : j = k
        · subst e
          rw [List.getElem?_set_self (by omega)] at hz
          injection hz with hz
          exact hz.symm
        · rw [List.getElem?_set_ne (fun h => e h.symm)] at hz
          exact S.out j z (by omega) hz)
      have l0 : (0 : Int) ≤ (k : Int) := by omega
      have l1 : (k : Int) < (q : Int) := by omega
      clear hy hg O B S
      go_wp2_with fail
      exact ⟨⟨k + 1, _, by omega, by go_num, by rw [List.length_set]; exact hcl, B6, O6, S6⟩, by simp [intOf]; omega⟩
    · obtain rfl : k = q := by omega
      have P0 := hide (show Plc d 0 cur from ⟨by rw [hcl]; exact HN.out, fun n z hz => .inl ⟨S.out n z (by have := (List.getElem?_eq_some_iff.1 hz).1; omega) hz, fun p hp => by omega⟩⟩)
      have D0 := hide (show OrdK d 0 from ⟨fun i z hi => by omega, fun i j z hi => by omega⟩)
      clear S hcl O1 BA
      go_wp2_with fail
      go_loopw [22] (fun iv wr => ∃ (j : Nat) (cur : List Int), j ≤ k ∧ iv = .int .i64 (j : Int) ∧ Hid (Below w.heap.size w wr) ∧ Hid (Ow 3 ei 1 wr w.heap.size (.slice (some ⟨w.heap.size, 0, none⟩) k k) cur) ∧ Hid (Plc d j cur) ∧ Hid (OrdK d j)) (fun iv _ => k - (intOf iv).toNat)
      case atStart => exact ⟨0, _, Nat.zero_le _, rfl, B, O, P0, D0⟩
      case round =>
        clear P0 D0 B O
        obtain ⟨j, cur, hj, rfl, B, O, P, D⟩ := hrel
        by_cases hjt : j < k
        · obtain ⟨z, hz⟩ := len_of (d := d) (k := j) (by rw [← HN.out]; exact hjt)
          obtain ⟨b, off, rfl, hb, hcs⟩ := (HV.out.step B.out).get hz
          have c0 := hcs 0 _ rfl
          rw [Nat.add_zero, Nat.mul_one] at c0
          have l0 : (0 : Int) ≤ (j : Int) := by omega
          have l1 : (j : Int) < (k : Int) := by omega
          have HZ := hide hz
          clear hcs hb hz
          by_cases h0 : z < 0
          · have t0 : decide (z < 0) = true := decide_eq_true h0
            have BAD := hide (show ¬ Ord d from fun h => by have := (h.1 j z HZ.out).1; omega)
            have BB := hide B.out
            clear h0
            go_wp2_with fail
            go_ret2
            exact ⟨BB.out, .inl ⟨BAD.out, rfl⟩⟩
          · have t0 : decide (z < 0) = false := decide_eq_false h0
            by_cases h1 : (k : Int) ≤ z
            · have t1 : decide ((k : Int) ≤ z) = true := decide_eq_true h1
              have BAD := hide (show ¬ Ord d from fun h => by have := (h.1 j z HZ.out).2; rw [← HN.out] at this; omega)
              have BB := hide B.out
              clear h0 h1
              go_wp2_with fail
              go_ret2
              exact ⟨BB.out, .inl ⟨BAD.out, rfl⟩⟩
            · have t1 : decide ((k : Int) ≤ z) = false := decide_eq_false h1
              clear t0 t1
              obtain ⟨n, rfl⟩ : ∃ n : Nat, z = (n : Int) := ⟨z.toNat, by omega⟩
              have t1 : decide (k ≤ n) = false := decide_eq_false (by omega)
              obtain ⟨y, hy⟩ := len_of (d := cur) (k := n) (by rw [P.out.1, ← HN.out]; omega)
              obtain ⟨e0, f0⟩ := O.out.cellsi hy
              have l2 : (0 : Int) ≤ (n : Int) := by omega
              have l3 : (n : Int) < (k : Int) := by omega
              by_cases h2 : 0 ≤ y
              · have t2 : decide (0 ≤ y) = true := decide_eq_true h2
                have BAD := hide (show ¬ Ord d from fun h => by
                  rcases P.out.2 n y hy with ⟨h3, _⟩ | ⟨p, h3, h4, h5⟩
                  · omega
                  · have := h.2 p j _ h5 HZ.out
                    omega)
                have BB := hide B.out
                clear h0 h1 h2 hy
                go_wp2_with fail
                go_ret2
                exact ⟨BB.out, .inl ⟨BAD.out, rfl⟩⟩
              · have t2 : decide (0 ≤ y) = false := decide_eq_false h2
                have hg : wr.grownBy (wr.setCell ⟨w.heap.size, n, none⟩ (.int .i64 (j : Int))) (some w.heap.size) := only_set (p := ⟨w.heap.size, n, none⟩) (only_refl wr _) rfl _
                have O6 := hide (O.out.puti (i := n) (by rw [P.out.1, ← HN.out]; omega) (j : Int))
                have B6 := hide (show Below w.heap.size w _ from (B.out.grown hg B.out.size (fun g e => by injection e with e; subst e; exact (O.out.lt rfl).1)))
                obtain ⟨p6, d6⟩ := P.out.put D.out HZ.out hy h2
                have P6 := hide p6
                have D6 := hide d6
                clear h0 h1 h2 hy hg p6 d6 O B P D
                go_wp2_with fail
                exact ⟨⟨j + 1, _, by omega, by go_num, B6, O6, P6, D6⟩, by simp [intOf]; omega⟩
        · obtain rfl : j = k := by omega
          have OD := hide (D.out.all (by rw [HN.out]; exact Nat.le_refl _))
          have PP := hide (show Plc d d.length cur from by have h := P.out; rwa [HN.out] at h)
          clear P D
          go_wp2_with fail
          go_ret2
          exact ⟨B.out, .inr ⟨OD.out, _, _, _, cur, rfl, O.out, PP.out⟩⟩
end Go.Proofs.YtieicmcbdhaipaaGreat

/-
  The document's order; mat.Rows, and the document's.
-/

namespace Go.Proofs.YtieicmcbdhaipaaGreat
open Go.RowKit Go.Proofs.YtieicmcbdhaipaaGreat.Num
set_option linter.unusedVariables false
set_option linter.unusedSimpArgs false
set_option maxRecDepth 100000

set_option maxHeartbeats 8000000 in
theorem order_m {w : World} {v : Value} {d : List Int} (hv : Lr ei 1 w v d) :
    Calls Tryz.prog 130 #[v] w fun e w' => Below w.heap.size w w' ∧ ((¬ Ord d ∧ e = .returned (.bool false)) ∨ (Ord d ∧ e = .returned (.bool true))) := by
  obtain ⟨A, c, e1, hc1, hc2, hc3⟩ := id hv
  obtain ⟨q, hlen⟩ : ∃ q, q = d.length := ⟨_, rfl⟩
  rw [← hlen] at e1 hc1
  subst e1
  have HV := hide hv
  have HN := hide hlen
  unfold maxLen at hc2
  have hpx : q ≤ 9223372036854775807 := by omega
  clear hv hc3 hlen
  go_enter Tryz.func130, Tryz.ntmps130
  go_wp2_with fail
  go_loopw [3] (fun iv wr => ∃ k : Nat, k ≤ q ∧ iv = .int .i64 (k : Int) ∧ Hid (Below w.heap.size w wr) ∧ Hid (OrdK d k)) (fun iv _ => q - (intOf iv).toNat)
  case atStart => exact ⟨0, Nat.zero_le _, rfl, hide (Below.refl _ _), hide ⟨fun i z hi => by omega, fun i j z hi => by omega⟩⟩
  case round =>
    obtain ⟨k, hk, rfl, B, D⟩ := hrel
    by_cases hlt : k < q
    · obtain ⟨z, hz⟩ := len_of (d := d) (k := k) (by rw [← HN.out]; exact hlt)
      have HZ := hide hz
      have CZ := hide (show ∀ W, Below w.heap.size w W → ∃ b off, A = some ⟨b, off, none⟩ ∧ W.cell? ⟨b, off + k, none⟩ = some (.int .i64 z) from fun W h => by
        obtain ⟨b, off, e, hb, hcs⟩ := (HV.out.step h).get hz
        have c0 := hcs 0 _ rfl
        rw [Nat.add_zero, Nat.mul_one] at c0
        exact ⟨b, off, e, c0⟩)
      obtain ⟨b, off, rfl, c0⟩ := CZ.out _ B.out
      have l0 : (0 : Int) ≤ (k : Int) := by omega
      have l1 : (k : Int) < (q : Int) := by omega
      clear hz
      by_cases h0 : z < 0
      · have t0 : decide (z < 0) = true := decide_eq_true h0
        have BAD := hide (show ¬ Ord d from fun h => by have := (h.1 k z HZ.out).1; omega)
        clear h0
        go_wp2_with fail
        go_ret
        exact ⟨B.out, .inl ⟨BAD.out, rfl⟩⟩
      · by_cases h1 : (q : Int) ≤ z
        · have t0 : decide (z < 0) = false := decide_eq_false h0
          have t1 : decide ((q : Int) ≤ z) = true := decide_eq_true h1
          have BAD := hide (show ¬ Ord d from fun h => by have := (h.1 k z HZ.out).2; rw [← HN.out] at this; omega)
          clear h0 h1
          go_wp2_with fail
          go_ret
          exact ⟨B.out, .inl ⟨BAD.out, rfl⟩⟩
        · have t0 : decide (z < 0) = false := decide_eq_false h0
          have t1 : decide ((q : Int) ≤ z) = false := decide_eq_false h1
          have HZB := hide (And.intro h0 h1)
          clear h0 h1
          go_wp2_with fail
          clear c0
          go_loopw [4] (fun iv wr => ∃ j : Nat, j ≤ k ∧ iv = .int .i64 (j : Int) ∧ Hid (Below w.heap.size w wr) ∧ Hid (∀ p, p < j → d[p]? ≠ some z)) (fun iv _ => k - (intOf iv).toNat)
          case atStart => exact ⟨0, Nat.zero_le _, rfl, B, hide (fun p hp => by omega)⟩
          case round =>
            clear B
            obtain ⟨j, hj, rfl, B, E⟩ := hrel
            by_cases hjt : j < k
            · obtain ⟨y, hy⟩ := len_of (d := d) (k := j) (by have := HN.out; omega)
              obtain ⟨b', off', r1, c0⟩ := CZ.out _ B.out
              injection r1 with r1
              injection r1 with r11 r12
              subst r11 r12
              obtain ⟨b', off', r1, hb, hcs⟩ := (HV.out.step B.out).get hy
              injection r1 with r1
              injection r1 with r11 r12
              subst r11 r12
              have e0 := hcs 0 _ rfl
              rw [Nat.add_zero, Nat.mul_one] at e0
              have m0 : (0 : Int) ≤ (j : Int) := by omega
              have m1 : (j : Int) < (k : Int) := by omega
              have m2 : (j : Int) < (q : Int) := by omega
              have HY := hide hy
              clear hb hcs hy
              by_cases hyz : y = z
              · have t2 : (y == z) = true := by simp [hyz]
                have BAD := hide (show ¬ Ord d from fun h => by
                  have := h.2 j k z (by rw [HY.out, hyz]) HZ.out
                  omega)
                clear hyz
                go_wp2_with fail
                go_quiet (fail)
                have Z9 := hide (show Below w.heap.size w (wr.drewN nq) from below_drewN B.out nq)
                generalize wr.drewN nq = w9 at *
                go_wp2_with fail
                go_ret
                exact ⟨Z9.out, .inl ⟨BAD.out, rfl⟩⟩
              · have t2 : (y == z) = false := by simp [hyz]
                have E2 := hide (show ∀ p, p < j + 1 → d[p]? ≠ some z from fun p hp => by
                  by_cases e : p = j
                  · subst e
                    rw [HY.out]
                    intro h
                    injection h with h
                    exact hyz h
                  · exact E.out p (by omega))
                clear hyz
                go_wp2_with fail
                go_quiet (fail)
                have Z9 := hide (show Below w.heap.size w (wr.drewN nq) from below_drewN B.out nq)
                generalize wr.drewN nq = w9 at *
                go_wp2_with fail
                exact ⟨⟨j + 1, by omega, by go_num, Z9, E2⟩, by simp [intOf]; omega⟩
            · obtain rfl : j = k := by omega
              have D2 := hide (show OrdK d (j + 1) from ⟨fun i y hi hy => by
                by_cases e : i = j
                · subst e
                  rw [HZ.out] at hy
                  injection hy with hy
                  subst hy
                  have := HZB.out
                  have := HN.out
                  omega
                · exact D.out.1 i y (by omega) hy, fun a b y ha hb h1 h2 => by
                by_cases ea : a = j
                · by_cases eb : b = j
                  · omega
                  · subst ea
                    rw [HZ.out] at h1
                    injection h1 with h1
                    subst h1
                    exact absurd h2 (E.out b (by omega))
                · by_cases eb : b = j
                  · subst eb
                    rw [HZ.out] at h2
                    injection h2 with h2
                    subst h2
                    exact absurd h1 (E.out a (by omega))
                  · exact D.out.2 a b y (by omega) (by omega) h1 h2⟩)
              clear D E
              go_wp2_with fail
              exact ⟨⟨j + 1, by omega, by go_num, B, D2⟩, by simp [intOf]; omega⟩
    · obtain rfl : k = q := by omega
      have OD := hide (D.out.all (by rw [HN.out]; exact Nat.le_refl _))
      go_wp2_with fail
      go_ret
      exact ⟨B.out, .inr ⟨OD.out, rfl⟩⟩
end Go.Proofs.YtieicmcbdhaipaaGreat

/-
  mat.Rows, and the document's.
-/

namespace Go.Proofs.YtieicmcbdhaipaaGreat
open Go.RowKit Go.Proofs.YtieicmcbdhaipaaGreat.Num
set_option linter.unusedVariables false
set_option linter.unusedSimpArgs false
set_option maxRecDepth 100000

/-- The rows in an order. -/
def po (m : List Vx) (d : List Int) : List Vx := d.map fun z => (m[z.toNat]?).getD zvx
theorem po_len (m : List Vx) (d : List Int) : (po m d).length = d.length := by simp [po]
theorem po_at {m : List Vx} {d : List Int} {j n : Nat} {x : Vx} (h : d[j]? = some (n : Int)) (hx : m[n]? = some x) : (po m d)[j]? = some x := by
  unfold po
  rw [List.getElem?_map, h]
  simp [hx]
/-- A row in its one form. -/
def RowEq (x y : Vx) : Prop := Fm (tms y.d) ∧ (∀ c, 0 ≤ c → gsum (tms y.d) c = gsum (tms x.d) c) ∧ y.d.length ≤ x.d.length
def Rel (R : Vx → Vx → Prop) (mo m' : List Vx) : Prop := m'.length = mo.length ∧ ∀ (j : Nat) x y, mo[j]? = some x → m'[j]? = some y → R x y
/-- An answer: rows, or an error. -/
def AnsS (ok : Prop) (R : Vx → Vx → Prop) (mo : List Vx) (W : World) (B P : Nat) (v : Value) (z : Int) (m' : List Vx) : Prop := Mg W B v m' P ∧ ((z = 2 ∧ ¬ ok ∧ m' = []) ∨ (z = 0 ∧ ok ∧ Rel R mo m'))
theorem mg_nil (W : World) (B P : Nat) : Mg W B (.slice none 0 0) [] P := ⟨Ow.nil _ _ _ _ _, fun x hx => by cases hx⟩

set_option maxHeartbeats 8000000 in
theorem rows_m {w : World} {v u : Value} {m : List Vx} {d : List Int} {L N P : Nat} (hv : Mv w v m L) (hu : Lr ei 1 w u d) (hN : ∀ x ∈ m, x.d.length ≤ N) (hNN : N ≤ 1000) (hm : m.length ≤ 1000) (hd : d.length ≤ 1000) (h1 : 1 ≤ L) (hL : L ≤ 100000) (hP : N * (L + 1) + 1 ≤ P) :
    Calls Tryz.prog 73 #[v, u] w fun e w' => ∃ A k c z m', e = .returned (.tuple #[.slice A k c, .int .i64 z]) ∧ AnsS (Ord d ∧ d.length = m.length) RowEq (po m d) w' w.heap.size P (.slice A k c) z m' ∧ Below w.heap.size w w' := by
  obtain ⟨A, c, e1, hc1, hc2, hc3⟩ := id hv.1
  obtain ⟨q, hlen⟩ : ∃ q, q = m.length := ⟨_, rfl⟩
  obtain ⟨D, c2, e2, hd1, hd2, hd3⟩ := id hu
  obtain ⟨p, hpl⟩ : ∃ p, p = d.length := ⟨_, rfl⟩
  rw [← hlen] at e1 hc1 hm
  rw [← hpl] at e2 hd1 hd
  subst e1 e2
  have HV := hide hv
  have HU := hide hu
  have HN := hide hlen
  have HP := hide hpl
  have NN := hide hN
  have NB := hide hNN
  have PB := hide (And.intro h1 hL)
  have PP := hide (show ∀ k, k ≤ N → k * (L + 1) + 1 ≤ P from fun k hk => Nat.le_trans (Nat.succ_le_succ (Nat.mul_le_mul_right _ hk)) hP)
  unfold maxLen at hc2 hd2
  have hpx : q ≤ 9223372036854775807 := by omega
  have hpz : (0 : Int) ≤ (q : Int) := by omega
  have PL := hide (places_m hu (by omega))
  clear hv hu hc3 hd3 hlen hpl hN hNN h1 hL hP
  go_enter Tryz.func73, Tryz.ntmps73
  go_wp2_with fail
  refine PL.out.mono ?_
  rintro e w3 ⟨bx, (⟨hno, rfl⟩ | ⟨ho, g, n, c, tq, rfl, -, -⟩)⟩
  · have BAD := hide (show ¬ (Ord d ∧ d.length = m.length) from fun h => hno h.1)
    have BB := hide bx
    clear PL hno bx
    go_wp2_with fail
    go_ret2
    exact ⟨none, 0, 0, 2, [], rfl, ⟨mg_nil _ _ _, .inl ⟨rfl, BAD.out, rfl⟩⟩, BB.out⟩
  · have BB := hide bx
    have OD := hide ho
    clear PL ho bx
    by_cases hpq : p = q
    · have t0 : ((p : Int) != (q : Int)) = false := by simp [hpq]
      have PQ := hide hpq
      have hmk := make_row q (by omega) w3
      have O1 := hide (made1 w3 w.heap.size q BB.out.size (by omega))
      have BA := hide (show Below w.heap.size w (w3.alloc (.cells (madeCells #[.slice none 0 0] (q * 1)) 47)) from BB.out.alloc BB.out.size _)
      have S1 := hide (show Sgp RowEq (w3.alloc (.cells (madeCells #[.slice none 0 0] (q * 1)) 47)) w.heap.size P 0 (po m d) (List.replicate q zvx) from ⟨by rw [po_len, List.length_replicate, ← HP.out, hpq], fun j x y h => by omega⟩)
      generalize madeCells #[.slice none 0 0] (q * 1) = Z at *
      have G3 := hide (show w.heap.size ≤ w3.heap.size from BB.out.size)
      clear hpq BB
      go_wp2_with fail
      clear hmk
      obtain ⟨G, hG⟩ : ∃ G, w3.heap.size = G := ⟨_, rfl⟩
      generalize (w3.alloc (.cells Z 47)) = w2 at *
      rw [hG] at O1 ⊢
      clear hG
      go_loopw [30] (fun iv wr => ∃ (k : Nat) (cur : List Vx), k ≤ p ∧ iv = .int .i64 (k : Int) ∧ Hid (Below w.heap.size w wr) ∧ Hid (Ow 47 em 1 wr w.heap.size (.slice (some ⟨G, 0, none⟩) q q) cur) ∧ Hid (Sgp RowEq wr w.heap.size P k (po m d) cur)) (fun iv _ => p - (intOf iv).toNat)
      case atStart => exact ⟨0, _, Nat.zero_le _, rfl, BA, O1, S1⟩
      case round =>
        clear BA O1 S1
        obtain ⟨k, cur, hk, rfl, B, O, S⟩ := hrel
        by_cases hlt : k < p
        · obtain ⟨z, hz⟩ := len_of (d := d) (k := k) (by rw [← HP.out]; exact hlt)
          obtain ⟨z0, z1⟩ := OD.out.1 k z hz
          obtain ⟨i, rfl⟩ : ∃ i : Nat, z = (i : Int) := ⟨z.toNat, by omega⟩
          obtain ⟨x, hx⟩ := len_of (d := m) (k := i) (by have := HN.out; have := HP.out; have := PQ.out; omega)
          have hil := (List.getElem?_eq_some_iff.1 hx).1
          have HX := hide (po_at hz hx)
          have hmx := List.mem_of_getElem? hx
          have RX := hide ((HV.out.2 x hmx).step B.out)
          have NX := hide (NN.out x hmx)
          obtain ⟨b1, off, rfl, hb, hcs⟩ := (HV.out.1.step B.out).get hx
          have c0 := hcs 0 _ rfl
          rw [Nat.add_zero, Nat.mul_one] at c0
          obtain ⟨b2, off2, rfl, hb2, hcs2⟩ := (HU.out.step B.out).get hz
          have e0 := hcs2 0 _ rfl
          rw [Nat.add_zero, Nat.mul_one] at e0
          have l0 : (0 : Int) ≤ (k : Int) := by omega
          have l1 : (k : Int) < (p : Int) := by omega
          have l2 : (0 : Int) ≤ (i : Int) := by omega
          have l3 : (i : Int) < (q : Int) := by have := HN.out; omega
          have l4 : (k : Int) < (q : Int) := by have := PQ.out; omega
          clear hcs hb hcs2 hb2 hx hmx hz z0 z1 hil
          go_wp2_with fail
          refine (make_v RX.out (by have := NX.out; have := NB.out; omega) PB.out.1 (by have := PB.out.2; omega)).mono ?_
          rintro e w5 ⟨v1, d1, rfl, t1, f1, g1, n1, bx⟩
          obtain ⟨A9, m9, c9, rfl⟩ := rv_sl t1.tv.1
          have T5 := hide ((t1.mono (B' := w.heap.size) B.out.size).more (M := P) (PP.out _ NX.out))
          have RO := hide (show RowEq x ⟨(A9, m9, c9), d1⟩ from ⟨f1, g1, n1⟩)
          have B5 := hide (Below.step B.out B.out.size bx)
          have O5 := hide (O.out.step bx)
          have S5 := hide (S.out.step bx)
          clear t1 f1 g1 n1 bx B O S c0 e0 RX
          have hck : k < cur.length := by rw [S5.out.1, po_len, ← HP.out]; exact hlt
          obtain ⟨y, hy⟩ := len_of (d := cur) (k := k) hck
          obtain ⟨e0, f0⟩ := O5.out.cellsM hy
          have hg : w5.grownBy (w5.setCell ⟨G, k, none⟩ (.slice A9 m9 c9)) (some G) := only_set (p := ⟨G, k, none⟩) (only_refl w5 _) rfl _
          have O6 := hide (O5.out.putM (i := k) hck ⟨(A9, m9, c9), d1⟩)
          have S6 := hide (S5.out.put HX.out RO.out T5.out O5.out hg)
          have B6 := hide (show Below w.heap.size w _ from (B5.out.grown hg B5.out.size (fun g e => by injection e with e; subst e; exact (O5.out.lt rfl).1)))
          clear hy hg hck O5 S5 T5 B5
          go_wp2_with fail
          exact ⟨⟨k + 1, _, by omega, by go_num, B6, O6, S6⟩, by simp [intOf]; omega⟩
        · obtain rfl : k = p := by omega
          have hkp : k = (po m d).length := by rw [po_len]; exact HP.out
          have SS := hide (show Sgp RowEq wr w.heap.size P (po m d).length (po m d) cur from by have h := S.out; rwa [hkp] at h)
          clear hkp
          go_wp2_with fail
          go_ret2
          exact ⟨_, _, _, 0, cur, rfl, ⟨SS.out.mg O.out, .inr ⟨rfl, ⟨OD.out, by rw [← HP.out, ← HN.out]; exact PQ.out⟩, SS.out.1, fun j x y hx hy => SS.out.rel hx hy⟩⟩, B.out⟩
    · have t0 : ((p : Int) != (q : Int)) = true := by simp; omega
      have BAD := hide (show ¬ (Ord d ∧ d.length = m.length) from fun h => hpq (by rw [HP.out, HN.out]; exact h.2))
      clear hpq
      go_wp2_with fail
      go_ret2
      exact ⟨none, 0, 0, 2, [], rfl, ⟨mg_nil _ _ _, .inl ⟨rfl, BAD.out, rfl⟩⟩, BB.out⟩

set_option maxHeartbeats 8000000 in
theorem rrows_m {w : World} {v u : Value} {m : List Vx} {d : List Int} {L N P : Nat} (hv : Mv w v m L) (hu : Lr ei 1 w u d) (hN : ∀ x ∈ m, x.d.length ≤ N) (hNN : N ≤ 1000) (hm : m.length ≤ 1000) (hd : d.length ≤ 1000) (h1 : 1 ≤ L) (hL : L ≤ 100000) (hP : N * (5 * L + 1) + 6 ≤ P) :
    Calls Tryz.prog 75 #[v, u] w fun e w' => ∃ A k c z m', e = .returned (.tuple #[.slice A k c, .int .i64 z]) ∧ AnsS (Ord d ∧ d.length = m.length) RowEq (po m d) w' w.heap.size P (.slice A k c) z m' ∧ Below w.heap.size w w' := by
  obtain ⟨j0, gi, gz0, gz1, gz2⟩ := info_parts info_row
  obtain ⟨A, c, e1, hc1, hc2, hc3⟩ := id hv.1
  obtain ⟨q, hlen⟩ : ∃ q, q = m.length := ⟨_, rfl⟩
  obtain ⟨D, c2, e2, hd1, hd2, hd3⟩ := id hu
  obtain ⟨p, hpl⟩ : ∃ p, p = d.length := ⟨_, rfl⟩
  rw [← hlen] at e1 hc1 hm
  rw [← hpl] at e2 hd1 hd
  subst e1 e2
  have HV := hide hv
  have HU := hide hu
  have HN := hide hlen
  have HP := hide hpl
  have NN := hide hN
  have NB := hide hNN
  have PB := hide (And.intro h1 hL)
  have PP := hide (show ∀ k, k ≤ N → k * (5 * L + 1) + 6 ≤ P from fun k hk => Nat.le_trans (Nat.add_le_add_right (Nat.mul_le_mul_right _ hk) 6) hP)
  unfold maxLen at hc2 hd2
  have hpx : q ≤ 9223372036854775807 := by omega
  have b0 := alloc_below w (.cells #[] 47)
  have T0 := hide (show Mg (w.alloc (.cells #[] 47)) w.heap.size (.slice (some ⟨w.heap.size, 0, none⟩) 0 0) [] P from ⟨Ow.lit (B := w.heap.size) em_len w 47 ([] : List Vx) #[] rfl (Nat.le_refl _) (by simp [maxLen]), fun x hx => by cases hx⟩)
  have B0 := hide b0
  have PL := hide (order_m (hu.step b0))
  clear hv hu hc3 hd3 hlen hpl hN hNN h1 hL hP b0
  go_enter Tryz.func75, Tryz.ntmps75
  go_wp2_with fail
  refine PL.out.mono ?_
  rintro e w3 ⟨bx, h⟩
  replace T0 := hide (T0.out.step bx)
  replace B0 := hide (Below.step B0.out B0.out.size bx)
  have OR := hide h
  clear PL h bx
  rcases OR.out with ⟨hno, rfl⟩ | ⟨ho, rfl⟩
  · have BAD := hide (show ¬ (Ord d ∧ d.length = m.length) from fun h => hno h.1)
    clear OR hno
    go_wp2_with fail
    go_ret2
    exact ⟨_, _, _, 2, [], rfl, ⟨T0.out, .inl ⟨rfl, BAD.out, rfl⟩⟩, B0.out⟩
  · have OD := hide ho
    clear OR ho
    by_cases hpq : p = q
    · have t0 : ((p : Int) != (q : Int)) = false := by simp [hpq]
      have PQ := hide hpq
      clear hpq
      go_wp2_with fail
      go_loopw [6, 7] (fun ov iv wr => ∃ (k : Nat) (os : List Vx), k ≤ p ∧ iv = .int .i64 (k : Int) ∧ Hid (os.length = k) ∧ Hid (∀ (j : Nat) y, os[j]? = some y → ∀ x, (po m d)[j]? = some x → RowEq x y) ∧ Hid (Below w.heap.size w wr) ∧ Hid (Mg wr w.heap.size ov os P)) (fun _ iv _ => p - (intOf iv).toNat)
      case atStart => exact ⟨0, [], Nat.zero_le _, rfl, hide rfl, hide (fun j x h => by simp at h), B0, T0⟩
      case round =>
        clear B0 T0
        obtain ⟨k, os, hk, rfl, KL, V, B, T⟩ := hrel
        obtain ⟨A7, n7, c7, rfl⟩ := rv_sl (T.out.1.rl em_len)
        by_cases hlt : k < p
        · obtain ⟨z, hz⟩ := len_of (d := d) (k := k) (by rw [← HP.out]; exact hlt)
          obtain ⟨z0, z1⟩ := OD.out.1 k z hz
          obtain ⟨i, rfl⟩ : ∃ i : Nat, z = (i : Int) := ⟨z.toNat, by omega⟩
          obtain ⟨x, hx⟩ := len_of (d := m) (k := i) (by have := HN.out; have := HP.out; have := PQ.out; omega)
          have hil := (List.getElem?_eq_some_iff.1 hx).1
          have HX := hide (po_at hz hx)
          have hmx := List.mem_of_getElem? hx
          have RX := hide ((HV.out.2 x hmx).step B.out)
          have NX := hide (NN.out x hmx)
          obtain ⟨b1, off, rfl, hb, hcs⟩ := (HV.out.1.step B.out).get hx
          have c0 := hcs 0 _ rfl
          rw [Nat.add_zero, Nat.mul_one] at c0
          obtain ⟨b2, off2, rfl, hb2, hcs2⟩ := (HU.out.step B.out).get hz
          have e0 := hcs2 0 _ rfl
          rw [Nat.add_zero, Nat.mul_one] at e0
          have l0 : (0 : Int) ≤ (k : Int) := by omega
          have l1 : (k : Int) < (p : Int) := by omega
          have l2 : (0 : Int) ≤ (i : Int) := by omega
          have l3 : (i : Int) < (q : Int) := by have := HN.out; omega
          have HLEN := hide (show os.length + 1 ≤ 1000000000000 by have := KL.out; omega)
          clear hcs hb hcs2 hb2 hx hmx hz z0 z1 hil
          go_wp2_with fail
          refine (vmake_fl RX.out (by have := NX.out; have := NB.out; omega) PB.out.1 PB.out.2).mono ?_
          rintro e w5 ⟨v5, l5, rfl, t5, f5, g5, n5, bx⟩
          obtain ⟨A5, n5', c5, rfl⟩ := rv_sl t5.tv.1
          have T5 := hide (T.out.step bx)
          have B6 := hide (Below.step B.out B.out.size bx)
          have X5 := hide ((t5.mono (B' := w.heap.size) B.out.size).more (M := P) (PP.out _ NX.out))
          have RO := hide (show RowEq x ⟨(A5, n5', c5), l5⟩ from ⟨f5, g5, n5⟩)
          clear t5 f5 g5 n5 bx T B c0 e0 RX
          go_wp2_with (at_builtin; go_must (refine wpList_pushE rfl (.tmp 26) (.tmp 35) 72 rfl Tryz.underlying72 gi gz0 gz1 gz2 rfl (by omega) em_len em_one w5 w.heap.size _ os ⟨(A5, n5', c5), l5⟩ _ rfl T5.out.1 rfl rfl HLEN.out (by decide) B6.out.size ?_); intro v' w' ho hg; have TF := hide (T5.out.push ho hg.1 X5.out); have CF := hide (below_own B6.out T5.out.1 hg.1 B6.out.size); clear ho hg)
          have K2 := hide (show (os ++ [(⟨(A5, n5', c5), l5⟩ : Vx)]).length = k + 1 by have := KL.out; simp; omega)
          have V2 := hide (get_snoc (R := fun (i : Nat) (y : Vx) => ∀ x, (po m d)[i]? = some x → RowEq x y) KL.out V.out (fun x' hx' => by have h := HX.out; rw [h] at hx'; injection hx' with hx'; subst hx'; exact RO.out))
          exact ⟨⟨k + 1, os ++ [⟨(A5, n5', c5), l5⟩], by omega, by go_num, K2, V2, CF, TF⟩, by simp [intOf]; omega⟩
        · obtain rfl : k = p := by omega
          go_wp2_with fail
          go_ret2
          exact ⟨_, _, _, 0, os, rfl, ⟨T.out, .inr ⟨rfl, ⟨OD.out, by rw [← HP.out, ← HN.out]; exact PQ.out⟩, by rw [po_len, KL.out]; exact HP.out, fun j x y hx hy => V.out j y hy x hx⟩⟩, B.out⟩
    · have t0 : ((p : Int) != (q : Int)) = true := by simp; omega
      have BAD := hide (show ¬ (Ord d ∧ d.length = m.length) from fun h => hpq (by rw [HP.out, HN.out]; exact h.2))
      clear hpq
      go_wp2_with fail
      go_ret2
      exact ⟨_, _, _, 2, [], rfl, ⟨T0.out, .inl ⟨rfl, BAD.out, rfl⟩⟩, B0.out⟩
end Go.Proofs.YtieicmcbdhaipaaGreat

/-
  mat.within, once more: no two rows share their block. mat.Columns.
-/

namespace Go.Proofs.YtieicmcbdhaipaaGreat
open Go.RowKit Go.Proofs.YtieicmcbdhaipaaGreat.Num
set_option linter.unusedVariables false
set_option linter.unusedSimpArgs false
set_option maxRecDepth 100000

/-- No two of the first k rows share their block. -/
def Dj (k : Nat) (cur : List Vx) : Prop := ∀ (a b : Nat) y y', a < k → b < k → a ≠ b → cur[a]? = some y → cur[b]? = some y' → (sv y.a).ownBlock = none ∨ (sv y.a).ownBlock ≠ (sv y'.a).ownBlock
theorem Dj.put {k C : Nat} {cur : List Vx} {z : Vx} (h : Dj k cur) (h1 : ∀ (a : Nat) y, a < k → cur[a]? = some y → ∀ g, (sv y.a).ownBlock = some g → g < C) (h2 : ∀ g, (sv z.a).ownBlock = some g → C ≤ g) : Dj (k + 1) (cur.set k z) := by
  intro a b y y' ha hb hab hy hy'
  have hs : ∀ (j : Nat) y, j ≠ k → (cur.set k z)[j]? = some y → cur[j]? = some y := fun j y hj h => by rwa [List.getElem?_set_ne (fun e => hj e.symm)] at h
  have hz : ∀ y, (cur.set k z)[k]? = some y → y = z := fun y h => by
    rw [List.getElem?_set] at h
    simp at h
    exact h.2.symm
  by_cases ea : a = k
  · subst ea
    obtain rfl := hz y hy
    have hb' := hs b y' (fun e => hab e.symm) hy'
    cases hg : (sv y.a).ownBlock with
    | none => exact .inl rfl
    | some g =>
      refine .inr (fun e => ?_)
      have := h1 b y' (by omega) hb' g e.symm
      have := h2 g hg
      omega
  · by_cases eb : b = k
    · subst eb
      obtain rfl := hz y' hy'
      have ha' := hs a y hab hy
      cases hg : (sv y.a).ownBlock with
      | none => exact .inl rfl
      | some g =>
        refine .inr (fun e => ?_)
        have := h1 a y (by omega) ha' g hg
        have := h2 g e.symm
        omega
    · exact h a b y y' (by omega) (by omega) hab (hs a y ea hy) (hs b y' eb hy')

set_option maxHeartbeats 8000000 in
theorem within_d {w : World} {v : Value} {m : List Vx} {L N P : Nat} {n : Int} (hv : Mv w v m L) (hN : ∀ x ∈ m, x.d.length ≤ N) (hNN : N ≤ 1000) (hm : m.length ≤ 1000) (h1 : 1 ≤ L) (hL : L ≤ 100000) (hP : N * (L + 1) + 1 ≤ P) :
    Calls Tryz.prog 128 #[v, .int .i64 n] w fun e w' => Below w.heap.size w w' ∧
      ((MtBad m n ∧ e = .returned (.tuple #[.slice none 0 0, .bool false])) ∨
       (¬ MtBad m n ∧ ∃ v' m', e = .returned (.tuple #[v', .bool true]) ∧ Ow 47 em 1 w' w.heap.size v' m' ∧ Sm w' w.heap.size n P m.length m m' ∧ Dj m.length m')) := by
  obtain ⟨A, c, e1, hc1, hc2, hc3⟩ := id hv.1
  obtain ⟨q, hlen⟩ : ∃ q, q = m.length := ⟨_, rfl⟩
  rw [← hlen] at e1 hc1 hm ⊢
  subst e1
  have HV := hide hv
  have HN := hide hlen
  have NN := hide hN
  have NB := hide hNN
  have PB := hide (And.intro h1 hL)
  have PP := hide (show ∀ k, k ≤ N → k * (L + 1) + 1 ≤ P from fun k hk => Nat.le_trans (Nat.succ_le_succ (Nat.mul_le_mul_right _ hk)) hP)
  unfold maxLen at hc2
  have hmk := make_row q (by omega) w
  have O1 := hide (made1 w w.heap.size q (Nat.le_refl _) (by omega))
  have BA := hide (alloc_below w (.cells (madeCells #[.slice none 0 0] (q * 1)) 47))
  have S1 := hide (show Sm (w.alloc (.cells (madeCells #[.slice none 0 0] (q * 1)) 47)) w.heap.size n P 0 m (List.replicate q zvx) from ⟨by simp [HN.out], fun j x y h => by omega⟩)
  generalize madeCells #[.slice none 0 0] (q * 1) = Z at *
  have hpx : q ≤ 9223372036854775807 := by omega
  have hpz : (0 : Int) ≤ (q : Int) := by omega
  clear hv hc3 hlen hN hNN h1 hL hP
  go_enter Tryz.func128, Tryz.ntmps128
  go_wp2_with fail
  clear hmk
  generalize (w.alloc (.cells Z 47)) = w2 at *
  go_loopw [14] (fun iv wr => ∃ (k : Nat) (cur : List Vx), k ≤ q ∧ iv = .int .i64 (k : Int) ∧ Hid (Below w.heap.size w wr) ∧ Hid (Ow 47 em 1 wr w.heap.size (.slice (some ⟨w.heap.size, 0, none⟩) q q) cur) ∧ Hid (Sm wr w.heap.size n P k m cur) ∧ Hid (Dj k cur)) (fun iv _ => q - (intOf iv).toNat)
  case atStart => exact ⟨0, _, Nat.zero_le _, rfl, BA, O1, S1, hide (fun a b y y' ha => by omega)⟩
  case round =>
    obtain ⟨k, cur, hk, rfl, B, O, S, J⟩ := hrel
    by_cases hlt : k < q
    · obtain ⟨x, hx⟩ := len_of (d := m) (k := k) (by rw [← HN.out]; exact hlt)
      have HX := hide hx
      have hmx := List.mem_of_getElem? hx
      have XM := hide hmx
      have RX := hide ((HV.out.2 x hmx).step B.out)
      have NX := hide (NN.out x hmx)
      obtain ⟨b, off, rfl, hb, hcs⟩ := (HV.out.1.step B.out).get hx
      have c0 := hcs 0 _ rfl
      rw [Nat.add_zero, Nat.mul_one] at c0
      have l0 : (0 : Int) ≤ (k : Int) := by omega
      have l1 : (k : Int) < (q : Int) := by omega
      clear hcs hb hx hmx
      go_wp2_with fail
      refine (make_v RX.out (by have := NX.out; have := NB.out; omega) PB.out.1 (by have := PB.out.2; omega)).mono ?_
      rintro e w5 ⟨v1, d1, rfl, t1, f1, g1, n1, bx⟩
      obtain ⟨A9, m9, c9, rfl⟩ := rv_sl t1.tv.1
      have HM := hide (show m9 = d1.length by
        obtain ⟨A', c', e, _⟩ := t1.tv.1
        injection e with e1 e2 e3)
      have T5 := hide ((t1.mono (B' := w.heap.size) B.out.size).more (M := P) (PP.out _ NX.out))
      have J5 := hide (show ∀ z : Vx, sv z.a = .slice A9 m9 c9 → Dj (k + 1) (cur.set k z) from fun z hz => J.out.put (C := wr.heap.size) (fun a y ha hy g hg => by
        obtain ⟨x0, hx0⟩ := len_of (d := m) (k := a) (by have := HN.out; omega)
        exact ((S.out.2 a x0 y ha hx0 hy).2.1.lt hg).2) (fun g hg => by
        rw [hz] at hg
        exact (t1.1.lt hg).1))
      have F5 := hide f1
      have G5 := hide (show ∀ c, 0 ≤ c → gsum (tms d1) c = gsum (tms x.d) c from g1)
      have N5 := hide n1
      have hml : m9 ≤ 1000 := by rw [HM.out]; have := NX.out; have := NB.out; omega
      have B5 := hide (Below.step B.out B.out.size bx)
      have O5 := hide (O.out.step bx)
      have S5 := hide (S.out.step bx)
      clear t1 f1 g1 n1 bx B O S J c0 RX
      rcases snoc_or d1 with hd | ⟨xs, l, hd⟩
      · have hm0 : m9 = 0 := by rw [HM.out, hd]; rfl
        have RO := hide (show RowOk n x ⟨(A9, m9, c9), d1⟩ from ⟨F5.out, G5.out, (fun t ht => by rw [hd] at ht; cases ht), N5.out⟩)
        subst hm0
        clear hd
        obtain ⟨y, hy⟩ := len_of (d := cur) (k := k) (by rw [S5.out.1, ← HN.out]; exact hlt)
        obtain ⟨e0, f0⟩ := O5.out.cellsM hy
        have hg : w5.grownBy (w5.setCell ⟨w.heap.size, k, none⟩ (.slice A9 0 c9)) (some w.heap.size) := only_set (p := ⟨w.heap.size, k, none⟩) (only_refl w5 _) rfl _
        have O6 := hide (O5.out.putM (i := k) (by rw [S5.out.1, ← HN.out]; exact hlt) ⟨(A9, 0, c9), d1⟩)
        have J6 := hide (J5.out ⟨(A9, 0, c9), d1⟩ rfl)
        have S6 := hide (S5.out.put HX.out RO.out T5.out O5.out hg)
        have B6 := hide (show Below w.heap.size w _ from (B5.out.grown hg B5.out.size (fun g e => by injection e with e; subst e; exact (O5.out.lt rfl).1)))
        clear hy hg O5 S5 T5 B5 J5
        go_wp2_with fail
        exact ⟨⟨k + 1, _, by omega, by go_num, B6, O6, S6, J6⟩, by simp [intOf]; omega⟩
      · obtain ⟨q9, hq9⟩ : ∃ q9, q9 = xs.length := ⟨_, rfl⟩
        have hm0 : m9 = q9 + 1 := by rw [HM.out, hd, hq9]; simp
        have hl : d1[q9]? = some l := by rw [hd, hq9]; simp
        have hfl := fm_last (xs := tms xs) (l := tm l) (by have h := F5.out; rw [hd, tms_append] at h; exact h)
        subst hm0
        obtain ⟨b2, off2, hA9, hb, hcs⟩ := T5.out.tv.1.get hl
        have z0 := hcs 0 _ rfl
        rw [Nat.add_zero] at z0
        have hw : IntKind.i64.wrap (q9 : Int) = (q9 : Int) := IntWalk.i64_in _ (by omega)
        have l2 : (0 : Int) ≤ (q9 : Int) := by omega
        have l3 : (q9 : Int) < ((q9 + 1 : Nat) : Int) := by omega
        clear hcs hb
        subst hA9
        by_cases hq : n ≤ l.c
        · have t4 : decide (n ≤ l.c) = true := decide_eq_true hq
          have BAD := hide (show MtBad m n from ⟨x, XM.out, l.c, hq, (F5.out.2 (tm l) (by rw [hd, tms_append]; simp [tms])).1, by
            have h0 : 0 ≤ l.c := (F5.out.2 (tm l) (by rw [hd, tms_append]; simp [tms])).1
            rw [← G5.out l.c h0, hd, tms_append]
            have e : gsum (tms xs ++ [tm l]) l.c = (tm l).2 := hfl.1
            rw [show tms [l] = [tm l] from rfl, e]
            exact (F5.out.2 (tm l) (by rw [hd, tms_append]; simp [tms])).2⟩)
          have BB := hide B5.out
          clear hq hfl hl hd hq9 O5 S5 T5
          go_wp2_with fail
          go_ret2
          exact ⟨BB.out, .inl ⟨BAD.out, rfl⟩⟩
        · have t4 : decide (n ≤ l.c) = false := decide_eq_false hq
          have RO := hide (show RowOk n x ⟨(some ⟨b2, off2, none⟩, q9 + 1, c9), d1⟩ from ⟨F5.out, G5.out, (fun t ht => by
            have h := hfl.2 (tm t) (by rw [show tms xs ++ [tm l] = tms d1 by rw [hd, tms_append]; rfl]; exact List.mem_map.2 ⟨t, ht, rfl⟩)
            have h : t.c ≤ l.c := h
            omega), N5.out⟩)
          clear hq hfl hl hd hq9
          obtain ⟨y, hy⟩ := len_of (d := cur) (k := k) (by rw [S5.out.1, ← HN.out]; exact hlt)
          obtain ⟨e0, f0⟩ := O5.out.cellsM hy
          have hg : w5.grownBy (w5.setCell ⟨w.heap.size, k, none⟩ (.slice (some ⟨b2, off2, none⟩) (q9 + 1) c9)) (some w.heap.size) := only_set (p := ⟨w.heap.size, k, none⟩) (only_refl w5 _) rfl _
          have O6 := hide (O5.out.putM (i := k) (by rw [S5.out.1, ← HN.out]; exact hlt) ⟨((some ⟨b2, off2, none⟩), (q9 + 1), c9), d1⟩)
          have J6 := hide (J5.out ⟨((some ⟨b2, off2, none⟩), (q9 + 1), c9), d1⟩ rfl)
          have S6 := hide (S5.out.put HX.out RO.out T5.out O5.out hg)
          have B6 := hide (show Below w.heap.size w _ from (B5.out.grown hg B5.out.size (fun g e => by injection e with e; subst e; exact (O5.out.lt rfl).1)))
          clear hy hg O5 S5 T5 B5 J5
          go_wp2_with fail
          exact ⟨⟨k + 1, _, by omega, by go_num, B6, O6, S6, J6⟩, by simp [intOf]; omega⟩
    · obtain rfl : k = q := by omega
      have GOOD := hide (show ¬ MtBad m n from by
        rintro ⟨x, hx, c, h, h0, hc⟩
        obtain ⟨j, hj, rfl⟩ := List.mem_iff_getElem.1 hx
        obtain ⟨y, hy⟩ := len_of (d := cur) (k := j) (by rw [S.out.1]; exact hj)
        obtain ⟨⟨h1, h2, h3, h4⟩, -⟩ := S.out.2 j _ y (by rw [HN.out]; exact hj) (List.getElem?_eq_getElem hj) hy
        rw [← h2 c h0] at hc
        exact hc (gsum_none (fun t ht => by
          obtain ⟨z, hz, rfl⟩ := List.mem_map.1 ht
          have := h3 z hz
          show z.c ≠ c
          omega)))
      go_wp2_with fail
      go_ret2
      exact ⟨B.out, .inr ⟨GOOD.out, _, cur, rfl, O.out, S.out, J.out⟩⟩
end Go.Proofs.YtieicmcbdhaipaaGreat

/-
  mat.Columns.
-/

namespace Go.Proofs.YtieicmcbdhaipaaGreat
open Go.RowKit Go.Proofs.YtieicmcbdhaipaaGreat.Num
set_option linter.unusedVariables false
set_option linter.unusedSimpArgs false
set_option maxRecDepth 100000

theorem pigeon : ∀ (S l : List Int), l.Nodup → (∀ x ∈ l, x ∈ S) → l.length ≤ S.length
  | [], l, _, h => by
    cases l with
    | nil => simp
    | cons a l => exact absurd (h a (by simp)) (by simp)
  | a :: S, l, hn, h => by
    have h1 := pigeon S (l.filter (· != a)) (hn.filter _) (fun x hx => by
      rw [List.mem_filter] at hx
      have h2 := h x hx.1
      simp at hx h2
      rcases h2 with h2 | h2
      · exact absurd h2 hx.2
      · exact h2)
    have h3 : l.length ≤ (l.filter (· != a)).length + 1 := by
      clear h h1
      induction l with
      | nil => simp
      | cons b l ih =>
        have hc := List.nodup_cons.1 hn
        by_cases e : b = a
        · subst e
          have : (l.filter (· != b)) = l := List.filter_eq_self.2 (fun x hx => by
            simp
            intro e
            subst e
            exact hc.1 hx)
          rw [List.filter_cons]
          simp [this]
        · rw [List.filter_cons, if_pos (by simp [e])]
          have := ih hc.2
          simp
          omega
    rw [List.length_cons]
    omega
/-- Each place is told by an order. -/
theorem Ord.onto {d : List Int} (h : Ord d) {z : Int} (h0 : 0 ≤ z) (h1 : z < (d.length : Int)) : ∃ p : Nat, d[p]? = some z := by
  apply Classical.byContradiction
  intro hn
  have hz : z ∉ d := fun hm => by
    obtain ⟨p, hp⟩ := List.getElem?_of_mem hm
    exact hn ⟨p, hp⟩
  have hd : d.Nodup := by
    rw [List.nodup_iff_pairwise_ne, List.pairwise_iff_getElem]
    intro i j hi hj hij e
    have := h.2 i j d[i] (List.getElem?_eq_getElem hi) (by rw [e]; exact List.getElem?_eq_getElem hj)
    omega
  have h2 := pigeon ((List.range d.length).map (fun (i : Nat) => (i : Int))) (z :: d) (List.nodup_cons.2 ⟨hz, hd⟩) (fun x hx => by
    have hr : 0 ≤ x ∧ x < (d.length : Int) := by
      rcases List.mem_cons.1 hx with rfl | hx
      · exact ⟨h0, h1⟩
      · obtain ⟨p, hp⟩ := List.getElem?_of_mem hx
        exact h.1 p x hp
    exact List.mem_map.2 ⟨x.toNat, List.mem_range.2 (by omega), by omega⟩)
  simp at h2
  omega
/-- Where a place comes to. -/
theorem Plc.at_ {d tq : List Int} (hp : Plc d d.length tq) (ho : Ord d) {z : Int} (h0 : 0 ≤ z) (h1 : z < (d.length : Int)) : ∃ p : Nat, tq[z.toNat]? = some (p : Int) ∧ p < d.length ∧ d[p]? = some z := by
  have hz : ((z.toNat : Nat) : Int) = z := by omega
  obtain ⟨y, hy⟩ := len_of (d := tq) (k := z.toNat) (by have := hp.1; omega)
  rcases hp.2 _ y hy with ⟨_, h2⟩ | ⟨p, h2, rfl, h4⟩
  · obtain ⟨p, h3⟩ := ho.onto h0 h1
    rw [hz] at h2
    exact absurd h3 (h2 p (List.getElem?_eq_some_iff.1 h3).1)
  · rw [hz] at h4
    exact ⟨p, hy, h2, h4⟩
def mvt (tq : List Int) (t : Tx) : Tx := ⟨(tq[t.c.toNat]?).getD 0, t.x⟩
/-- A row with its places in another order. -/
def gcol (d : List Int) (ts : List Tm) (c : Int) : Rat := match d[c.toNat]? with
  | some z => gsum ts z
  | none => 0
theorem mvt_sum {d tq : List Int} (hp : Plc d d.length tq) (ho : Ord d) {c : Int} (hc : 0 ≤ c) : ∀ (r : List Tx), (∀ t ∈ r, 0 ≤ t.c ∧ t.c < (d.length : Int)) → gsum (tms (r.map (mvt tq))) c = gcol d (tms r) c
  | [], _ => by
    unfold gcol
    split <;> rfl
  | t :: r, h => by
    have ih := mvt_sum hp ho hc r (fun x hx => h x (by simp [hx]))
    obtain ⟨h0, h1⟩ := h t (by simp)
    obtain ⟨p, h2, h3, h4⟩ := hp.at_ ho h0 h1
    have e1 : (mvt tq t).c = (p : Int) := by simp [mvt, h2]
    have e2 : ∀ z, gsum (tms (t :: r)) z = (if t.c = z then t.x.r else 0) + gsum (tms r) z := fun z => by simp [tms, tm, gsum]
    have e3 : gsum (tms ((t :: r).map (mvt tq))) c = (if (p : Int) = c then t.x.r else 0) + gsum (tms (r.map (mvt tq))) c := by
      rw [← e1]
      rfl
    rw [e3, ih]
    unfold gcol
    by_cases e : (p : Int) = c
    · have e' : c.toNat = p := by omega
      rw [if_pos e, e', h4]
      simp only [e2, if_true]
    · rw [if_neg e, Rat.zero_add]
      split
      · rename_i z hz
        rw [e2, if_neg (fun e4 => by
          subst e4
          have := ho.2 _ _ _ h4 hz
          omega), Rat.zero_add]
      · rfl
def ColR (d : List Int) (x y : Vx) : Prop := Fm (tms y.d) ∧ (∀ c, 0 ≤ c → gsum (tms y.d) c = gcol d (tms x.d) c) ∧ y.d.length ≤ x.d.length
def mp (tq : List Int) (r : List Tx) (j : Nat) : List Tx := (r.take j).map (mvt tq) ++ r.drop j
theorem mp_at {f : Tx → Tx} {r : List Tx} {j : Nat} {t : Tx} (h : r[j]? = some t) : ((r.take j).map f ++ r.drop j)[j]? = some t := by
  have hj := (List.getElem?_eq_some_iff.1 h).1
  have hl : ((r.take j).map f).length = j := by rw [List.length_map, List.length_take]; omega
  rw [List.getElem?_append_right (by omega), hl, Nat.sub_self, List.getElem?_drop, Nat.add_zero, h]
theorem mp_set {f : Tx → Tx} {r : List Tx} {j : Nat} {t : Tx} (h : r[j]? = some t) : ((r.take j).map f ++ r.drop j).set j (f t) = (r.take (j + 1)).map f ++ r.drop (j + 1) := by
  have hj := (List.getElem?_eq_some_iff.1 h).1
  have hl : ((r.take j).map f).length = j := by rw [List.length_map, List.length_take]; omega
  have hd : r.drop j = t :: r.drop (j + 1) := by
    rw [List.drop_eq_getElem_cons hj]
    congr 1
    exact (List.getElem?_eq_some_iff.1 h).2
  rw [List.take_add_one, h, Option.toList_some, List.map_append, List.append_assoc, hd]
  rw [List.set_append_right _ _ (by omega), hl, Nat.sub_self]
  rfl
theorem Tg.put1 {W : World} {B g n c i L : Nat} {d : List Tx} {y : Tx} (h : Tg W B (.slice (some ⟨g, 0, none⟩) n c) d L) (hi : d[i]? = some y) (z : Int) : Tg (W.setCell ⟨g, i * 4, none⟩ (.int .i64 z)) B (.slice (some ⟨g, 0, none⟩) n c) (d.set i ⟨z, y.x⟩) L := by
  have hg : W.grownBy (W.setCell ⟨g, i * 4, none⟩ (.int .i64 z)) (Value.slice (some ⟨g, 0, none⟩) n c).ownBlock := only_set (p := ⟨g, i * 4, none⟩) (only_refl W _) rfl _
  refine ⟨h.1.put1 hi z, fun x hx => ?_⟩
  have hm : ∃ x0 ∈ d, x0.x = x.x := by
    rcases List.mem_or_eq_of_mem_set hx with hx | rfl
    · exact ⟨x, hx, rfl⟩
    · exact ⟨y, List.mem_of_getElem? hi, rfl⟩
  obtain ⟨x0, h0, e⟩ := hm
  have h5 := (h.2 x0 h0).grownT hg (fun g e => h.1.ot g e)
  rw [e] at h5
  exact h5
/-- No two rows share their block. -/
def DjA (cur : List Vx) : Prop := ∀ (a b : Nat) y y', a ≠ b → cur[a]? = some y → cur[b]? = some y' → (sv y.a).ownBlock = none ∨ (sv y.a).ownBlock ≠ (sv y'.a).ownBlock
theorem DjA.put {k C : Nat} {cur : List Vx} {z : Vx} (h : DjA cur) (h1 : ∀ (a : Nat) y, a ≠ k → cur[a]? = some y → ∀ g, (sv y.a).ownBlock = some g → g < C) (h2 : ∀ g, (sv z.a).ownBlock = some g → C ≤ g) : DjA (cur.set k z) := by
  intro a b y y' hab hy hy'
  have hs : ∀ (j : Nat) y, j ≠ k → (cur.set k z)[j]? = some y → cur[j]? = some y := fun j y hj h => by rwa [List.getElem?_set_ne (fun e => hj e.symm)] at h
  have hz : ∀ y, (cur.set k z)[k]? = some y → y = z := fun y h => by
    rw [List.getElem?_set] at h
    simp at h
    exact h.2.symm
  by_cases ea : a = k
  · subst ea
    obtain rfl := hz y hy
    have hb' := hs b y' (fun e => hab e.symm) hy'
    cases hg : (sv y.a).ownBlock with
    | none => exact .inl rfl
    | some g =>
      refine .inr (fun e => ?_)
      have := h1 b y' (fun e => hab e.symm) hb' g e.symm
      have := h2 g hg
      omega
  · by_cases eb : b = k
    · subst eb
      obtain rfl := hz y' hy'
      have ha' := hs a y hab hy
      cases hg : (sv y.a).ownBlock with
      | none => exact .inl rfl
      | some g =>
        refine .inr (fun e => ?_)
        have := h1 a y hab ha' g hg
        have := h2 g e.symm
        omega
    · exact h a b y y' hab (hs a y ea hy) (hs b y' eb hy')
/-- Rows below k are done, the others not yet; o: without row o. -/
def Kc (W : World) (B P1 P2 : Nat) (d : List Int) (k : Nat) (o : Nat → Prop) (m cur : List Vx) : Prop := cur.length = m.length ∧ ∀ (j : Nat) x y, ¬ o j → m[j]? = some x → cur[j]? = some y → (j < k → ColR d x y ∧ Tg W B (sv y.a) y.d P2) ∧ (k ≤ j → RowOk (d.length : Int) x y ∧ Tg W B (sv y.a) y.d P1)
theorem Kc.map {W W' : World} {B P1 P2 : Nat} {d : List Int} {k : Nat} {o : Nat → Prop} {m cur : List Vx} (h : Kc W B P1 P2 d k o m cur) (hm : ∀ (j : Nat) y, ¬ o j → cur[j]? = some y → ∀ P, Tg W B (sv y.a) y.d P → Tg W' B (sv y.a) y.d P) : Kc W' B P1 P2 d k o m cur :=
  ⟨h.1, fun j x y ho hx hy => ⟨fun hj => ⟨((h.2 j x y ho hx hy).1 hj).1, hm j y ho hy _ ((h.2 j x y ho hx hy).1 hj).2⟩, fun hj => ⟨((h.2 j x y ho hx hy).2 hj).1, hm j y ho hy _ ((h.2 j x y ho hx hy).2 hj).2⟩⟩⟩
theorem Kc.step {W W' : World} {B P1 P2 : Nat} {d : List Int} {k : Nat} {o : Nat → Prop} {m cur : List Vx} (h : Kc W B P1 P2 d k o m cur) (hb : Below W.heap.size W W') : Kc W' B P1 P2 d k o m cur := h.map (fun _ _ _ _ _ t => t.step hb)
theorem Kc.lt {W : World} {B P1 P2 : Nat} {d : List Int} {k : Nat} {o : Nat → Prop} {m cur : List Vx} (h : Kc W B P1 P2 d k o m cur) {j : Nat} {y : Vx} (ho : ¬ o j) (hy : cur[j]? = some y) : ∀ g, (sv y.a).ownBlock = some g → g < W.heap.size := fun g hg => by
  obtain ⟨x, hx⟩ := len_of (d := m) (k := j) (by rw [← h.1]; exact (List.getElem?_eq_some_iff.1 hy).1)
  have hh := h.2 j x y ho hx hy
  rcases Nat.lt_or_ge j k with hj | hj
  · exact ((hh.1 hj).2.1.lt hg).2
  · exact ((hh.2 hj).2.1.lt hg).2
theorem Kc.done {W W' : World} {B P1 P2 : Nat} {d : List Int} {k : Nat} {m cur : List Vx} {x z : Vx} {B' : Nat} {u : Value} {f : List Vx} (h : Kc W B P1 P2 d k (fun j => j = k) m cur) (hx : m[k]? = some x) (hz : ColR d x z) (tz : Tg W B (sv z.a) z.d P2) (ho : Ow 47 em 1 W B' u f) (hg : W.grownBy W' u.ownBlock) : Kc W' B P1 P2 d (k + 1) (fun _ => False) m (cur.set k z) := by
  refine ⟨by rw [List.length_set]; exact h.1, fun j x' y _ hx' hy => ?_⟩
  by_cases e : j = k
  · subst e
    rw [hx] at hx'
    injection hx' with hx'
    subst hx'
    rw [List.getElem?_set] at hy
    simp at hy
    obtain ⟨_, rfl⟩ := hy
    exact ⟨fun _ => ⟨hz, tz.keptM ho hg⟩, fun hj => by omega⟩
  · rw [List.getElem?_set_ne (fun e' => e e'.symm)] at hy
    have hh := h.2 j x' y e hx' hy
    exact ⟨fun hj => ⟨(hh.1 (by omega)).1, (hh.1 (by omega)).2.keptM ho hg⟩, fun hj => ⟨(hh.2 (by omega)).1, (hh.2 (by omega)).2.keptM ho hg⟩⟩

set_option maxHeartbeats 16000000 in
theorem columns_m {w : World} {v u : Value} {m : List Vx} {d : List Int} {L N P1 P2 : Nat} (hv : Mv w v m L) (hu : Lr ei 1 w u d) (hN : ∀ x ∈ m, x.d.length ≤ N) (hNN : N ≤ 1000) (hm : m.length ≤ 1000) (hd : d.length ≤ 1000) (h1 : 1 ≤ L) (hL : L ≤ 100000) (hP1 : N * (L + 1) + 1 ≤ P1) (hPP : P1 ≤ 1000000) (hP2 : N * (P1 + 1) + 1 ≤ P2) :
    Calls Tryz.prog 74 #[v, u] w fun e w' => ∃ A k c z m', e = .returned (.tuple #[.slice A k c, .int .i64 z]) ∧ AnsS (Ord d ∧ ¬ MtBad m (d.length : Int)) (ColR d) m w' w.heap.size P2 (.slice A k c) z m' ∧ Below w.heap.size w w' := by
  obtain ⟨A1, n1, c1, rfl⟩ := rv_sl hv.1
  obtain ⟨D, c2, e2, hd1, hd2, hd3⟩ := id hu
  obtain ⟨p, hpl⟩ : ∃ p, p = d.length := ⟨_, rfl⟩
  rw [← hpl] at e2 hd1 hd
  subst e2
  have HV := hide hv
  have HU := hide hu
  have HP := hide hpl
  have HM := hide hm
  have NN := hide hN
  have PP := hide (And.intro hNN (And.intro h1 (And.intro hL hP1)))
  have PB := hide (show (∀ k, k ≤ N → k * (P1 + 1) + 1 ≤ P2) ∧ P1 ≤ 1000000 ∧ 1 ≤ P1 from ⟨fun k hk => Nat.le_trans (Nat.succ_le_succ (Nat.mul_le_mul_right _ hk)) hP2, hPP, by omega⟩)
  unfold maxLen at hd2
  have PL := hide (places_m hu (by omega))
  clear hv hu hd3 hpl hN hNN h1 hL hP1 hPP hP2 hm
  go_enter Tryz.func74, Tryz.ntmps74
  go_wp2_with fail
  refine PL.out.mono ?_
  rintro e w3 ⟨bx, (⟨hno, rfl⟩ | ⟨ho, g3, n3, c3, tq, rfl, hq, hpc⟩)⟩
  · have BAD := hide (show ¬ (Ord d ∧ ¬ MtBad m (d.length : Int)) from fun h => hno h.1)
    have BB := hide bx
    clear PL hno bx
    go_wp2_with fail
    go_ret2
    exact ⟨none, 0, 0, 2, [], rfl, ⟨mg_nil _ _ _, .inl ⟨rfl, BAD.out, rfl⟩⟩, BB.out⟩
  · obtain rfl : n3 = p := by
      rw [own_leni hq, hpc.1]
      exact HP.out.symm
    have BB := hide bx
    have OD := hide ho
    have TQ := hide hq
    have PC := hide hpc
    have WC := hide (within_d (n := (n3 : Int)) (HV.out.step bx) NN.out PP.out.1 HM.out PP.out.2.1 PP.out.2.2.1 PP.out.2.2.2)
    clear PL ho bx hq hpc
    go_wp2_with fail
    refine WC.out.mono ?_
    rintro e w4 ⟨bx, (⟨hbad, rfl⟩ | ⟨hgood, v', m', rfl, o4, s4, j4⟩)⟩
    · have BAD := hide (show ¬ (Ord d ∧ ¬ MtBad m (d.length : Int)) from fun h => h.2 (by rw [← HP.out]; exact hbad))
      replace BB := hide (Below.step BB.out BB.out.size bx)
      clear WC hbad bx
      go_wp2_with fail
      go_ret2
      exact ⟨none, 0, 0, 2, [], rfl, ⟨mg_nil _ _ _, .inl ⟨rfl, BAD.out, rfl⟩⟩, BB.out⟩
    · obtain ⟨A4, q, c4, rfl⟩ := rv_sl (o4.rl em_len)
      have hq4 : q = m'.length := by
        obtain ⟨_, _, e, _⟩ := o4.rl em_len
        injection e
      have HQ := hide (show q = m.length by rw [hq4, s4.1])
      have GOOD := hide (show Ord d ∧ ¬ MtBad m (d.length : Int) from ⟨OD.out, by rw [← HP.out]; exact hgood⟩)
      have S0 := hide (show Kc w4 w.heap.size P1 P2 d 0 (fun _ => False) m m' from ⟨s4.1, fun j x y _ hx hy => ⟨fun h => by omega, fun _ => by
        have h := s4.2 j x y (List.getElem?_eq_some_iff.1 hx).1 hx hy
        exact ⟨by rw [← HP.out]; exact h.1, h.2.mono BB.out.size⟩⟩⟩)
      have J0 := hide (show DjA m' from fun a b y y' hab hy hy' => j4 a b y y' (by rw [← s4.1]; exact (List.getElem?_eq_some_iff.1 hy).1) (by rw [← s4.1]; exact (List.getElem?_eq_some_iff.1 hy').1) hab hy hy')
      have O0 := hide (o4.mono (B' := w.heap.size) BB.out.size)
      replace TQ := hide (TQ.out.step bx)
      replace BB := hide (Below.step BB.out BB.out.size bx)
      have hq6 : q ≤ 1000 := by have := HQ.out; have := HM.out; omega
      clear WC hgood o4 s4 j4 bx hq4
      go_wp2_with fail
      go_loopw [29] (fun iv wr => ∃ (k : Nat) (cur : List Vx), k ≤ q ∧ iv = .int .i64 (k : Int) ∧ Hid (Below w.heap.size w wr) ∧ Hid (Ow 47 em 1 wr w.heap.size (.slice A4 q c4) cur) ∧ Hid (Kc wr w.heap.size P1 P2 d k (fun _ => False) m cur) ∧ Hid (DjA cur) ∧ Hid (Ow 3 ei 1 wr w.heap.size (.slice (some ⟨g3, 0, none⟩) n3 c3) tq)) (fun iv _ => q - (intOf iv).toNat)
      case atStart => exact ⟨0, _, Nat.zero_le _, rfl, BB, O0, S0, J0, TQ⟩
      case round =>
        clear BB O0 S0 J0 TQ
        obtain ⟨k, cur, hk, rfl, B, O, S, J, T⟩ := hrel
        by_cases hlt : k < q
        · obtain ⟨x, hx⟩ := len_of (d := m) (k := k) (by rw [← HQ.out]; exact hlt)
          obtain ⟨y, hy⟩ := len_of (d := cur) (k := k) (by rw [S.out.1, ← HQ.out]; exact hlt)
          have HX := hide hx
          have HY := hide hy
          obtain ⟨⟨A9, r, c9⟩, r0⟩ := y
          obtain ⟨ro, ty⟩ := (S.out.2 k x _ (fun h => h) hx hy).2 (Nat.le_refl _)
          have RO := hide ro
          have hr : r = r0.length := by
            obtain ⟨_, _, e, _⟩ := ty.1.rl et_len
            injection e
          have HR := hide hr
          have hr6 : r ≤ 1000 := by
            have h3 := ro.2.2.2
            have h4 := NN.out x (List.mem_of_getElem? hx)
            have h5 := PP.out.1
            have h6 : r0.length ≤ x.d.length := h3
            omega
          have HR6 := hide hr6
          have HA := hide (show 0 < q → ∃ G, A4 = some ⟨G, 0, none⟩ from fun h0 => by
            rcases O.out.form with ⟨e, _⟩ | ⟨G, cap, cc, e, _⟩
            · injection e with e1 e2 e3
              omega
            · injection e with e1
              exact ⟨G, e1⟩)
          obtain ⟨G, rfl⟩ := HA.out (by omega)
          obtain ⟨c0', f0⟩ := O.out.cellsM hy
          have c0 : wr.cell? ⟨G, k, none⟩ = some (.slice A9 r c9) := c0'
          clear c0'
          have l0 : (0 : Int) ≤ (k : Int) := by omega
          have l1 : (k : Int) < (q : Int) := by omega
          have T0 := hide (show Tg wr w.heap.size (.slice A9 r c9) (mp tq r0 0) P1 from ty)
          have S1 := hide (show Kc wr w.heap.size P1 P2 d k (fun j => j = k) m cur from ⟨S.out.1, fun j x y _ hx hy => S.out.2 j x y (fun h => h) hx hy⟩)
          have JN := hide (show ∀ (a : Nat) y, a ≠ k → cur[a]? = some y → (sv y.a).ownBlock = none ∨ (sv y.a).ownBlock ≠ (Value.slice A9 r c9).ownBlock from fun a y ha h => J.out a k y _ ha h hy)
          clear hx hy ro ty hr S
          go_wp2_with fail
          clear c0 f0
          go_loopw [36] (fun iv wr => ∃ j : Nat, j ≤ r ∧ iv = .int .i64 (j : Int) ∧ Hid (Below w.heap.size w wr) ∧ Hid (Ow 47 em 1 wr w.heap.size (.slice (some ⟨G, 0, none⟩) q c4) cur) ∧ Hid (Kc wr w.heap.size P1 P2 d k (fun j => j = k) m cur) ∧ Hid (Tg wr w.heap.size (.slice A9 r c9) (mp tq r0 j) P1) ∧ Hid (Ow 3 ei 1 wr w.heap.size (.slice (some ⟨g3, 0, none⟩) n3 c3) tq)) (fun iv _ => r - (intOf iv).toNat)
          case atStart => exact ⟨0, Nat.zero_le _, rfl, B, O, S1, T0, T⟩
          case round =>
            clear B O S1 T0 T
            obtain ⟨j, hj, rfl, B, O, S, Y, T⟩ := hrel
            by_cases hjt : j < r
            · obtain ⟨t, ht⟩ := len_of (d := r0) (k := j) (by rw [← HR.out]; exact hjt)
              have hmt := List.mem_of_getElem? ht
              have t1 : 0 ≤ t.c := (RO.out.1.2 (tm t) (List.mem_map.2 ⟨t, hmt, rfl⟩)).1
              have t2 : t.c < (d.length : Int) := RO.out.2.2.1 t hmt
              obtain ⟨z, hz1, hz2, hz3⟩ := PC.out.at_ OD.out t1 t2
              have hf : mvt tq t = ⟨(z : Int), t.x⟩ := by simp [mvt, hz1]
              have hc : ∃ n : Nat, t.c = (n : Int) := ⟨t.c.toNat, by omega⟩
              obtain ⟨n, hn⟩ := hc
              obtain ⟨g9, rfl⟩ : ∃ g9, A9 = some ⟨g9, 0, none⟩ := by
                rcases Y.out.1.form with ⟨e, _⟩ | ⟨g9, cap, cc, e, _⟩
                · injection e with e1 e2 e3
                  omega
                · injection e with e1
                  exact ⟨g9, e1⟩
              have hat : (mp tq r0 j)[j]? = some t := mp_at ht
              obtain ⟨c0, -, -, -⟩ := Y.out.1.cells hat
              have f0 := Y.out.1.frozen rfl (j * 4)
              rw [hn, Int.toNat_natCast] at hz1
              obtain ⟨e0, -⟩ := T.out.cellsi hz1
              rw [hn] at c0
              have hg : wr.grownBy (wr.setCell ⟨g9, j * 4, none⟩ (.int .i64 (z : Int))) (Value.slice (some ⟨g9, 0, none⟩) r c9).ownBlock := only_set (p := ⟨g9, j * 4, none⟩) (only_refl wr _) rfl _
              have hset : (mp tq r0 j).set j ⟨(z : Int), t.x⟩ = mp tq r0 (j + 1) := by rw [← hf]; exact mp_set ht
              have Y6 := hide (show Tg (wr.setCell ⟨g9, j * 4, none⟩ (.int .i64 (z : Int))) w.heap.size (.slice (some ⟨g9, 0, none⟩) r c9) (mp tq r0 (j + 1)) P1 from by
                rw [← hset]
                exact Y.out.put1 hat (z : Int))
              have O6 := hide (O.out.kept hg (ow_ow_ne O.out Y.out.1 (by decide)))
              have T6 := hide (T.out.kept hg (ow_ow_ne T.out Y.out.1 (by decide)))
              have S6 := hide (S.out.map (fun a y ha hy P t => t.keptT Y.out.1 (JN.out a y ha hy) hg))
              have B6 := hide (show Below w.heap.size w (wr.setCell ⟨g9, j * 4, none⟩ (.int .i64 (z : Int))) from B.out.grown hg B.out.size (fun g e => (Y.out.1.lt e).1))
              have m0 : (0 : Int) ≤ (j : Int) := by omega
              have m1 : (j : Int) < (r : Int) := by omega
              have m2 : (0 : Int) ≤ (n : Int) := by omega
              have m3 : (n : Int) < (n3 : Int) := by have := HP.out; omega
              clear ht hmt t1 t2 hz1 hz2 hz3 hf hn hat hg hset B O S Y T
              go_wp2_with fail
              exact ⟨⟨j + 1, by omega, by go_num, B6, O6, S6, Y6, T6⟩, by simp [intOf]; omega⟩
            · obtain rfl : j = r := by omega
              have hmp : mp tq r0 j = r0.map (mvt tq) := by
                unfold mp
                rw [HR.out, List.take_length, List.drop_length, List.append_nil]
              have Y2 := hide (show Tg wr w.heap.size (.slice A9 j c9) (r0.map (mvt tq)) P1 from by rw [← hmp]; exact Y.out)
              have hml : (r0.map (mvt tq)).length = r0.length := List.length_map _
              clear hmp Y
              go_wp2_with fail
              refine (make_v Y2.out.tv (by have := HR.out; have := HR6.out; omega) PB.out.2.2 PB.out.2.1).mono ?_
              rintro e w5 ⟨v1, d1, rfl, t1, f1, g1, n1, bx⟩
              obtain ⟨A8, m8, c8, rfl⟩ := rv_sl t1.tv.1
              have LX := hide (show r0.length ≤ x.d.length from RO.out.2.2.2)
              have LN := hide (show r0.length ≤ N from Nat.le_trans LX.out (NN.out x (List.mem_of_getElem? HX.out)))
              have J5 := hide (J.out.put (k := k) (z := ⟨(A8, m8, c8), d1⟩) (C := wr.heap.size) (fun a y ha hy => S.out.lt ha hy) (fun g hg => (t1.1.lt hg).1))
              have RC := hide (show ColR d x ⟨(A8, m8, c8), d1⟩ from ⟨f1, fun c hc => by
                refine (g1 c hc).trans ?_
                show gsum (tms (r0.map (mvt tq))) c = _
                rw [mvt_sum PC.out OD.out hc r0 (fun t ht => ⟨(RO.out.1.2 (tm t) (List.mem_map.2 ⟨t, ht, rfl⟩)).1, RO.out.2.2.1 t ht⟩)]
                unfold gcol
                split
                · rename_i z hz
                  exact RO.out.2.1 z (OD.out.1 _ z hz).1
                · rfl, by
                have h2 := LX.out
                have h3 : d1.length ≤ _ := n1
                rw [hml] at h3
                exact Nat.le_trans h3 h2⟩)
              have T5 := hide ((t1.mono (B' := w.heap.size) B.out.size).more (M := P2) (by rw [hml]; exact PB.out.1 _ LN.out))
              have B5 := hide (Below.step B.out B.out.size bx)
              have O5 := hide (O.out.step bx)
              have S5 := hide (S.out.step bx)
              have Q5 := hide (T.out.step bx)
              clear t1 f1 g1 n1 bx B O S T J Y2 hml
              obtain ⟨e0, f0⟩ := O5.out.cellsM HY.out
              have hg : w5.grownBy (w5.setCell ⟨G, k, none⟩ (.slice A8 m8 c8)) (some G) := only_set (p := ⟨G, k, none⟩) (only_refl w5 _) rfl _
              have O6 := hide (O5.out.putM (i := k) (List.getElem?_eq_some_iff.1 HY.out).1 ⟨(A8, m8, c8), d1⟩)
              have S6 := hide (S5.out.done HX.out RC.out T5.out O5.out hg)
              have Q6 := hide (Q5.out.kept hg (ow_ow_ne Q5.out O5.out (by decide)))
              have B6 := hide (show Below w.heap.size w _ from (B5.out.grown hg B5.out.size (fun g e => by injection e with e; subst e; exact (O5.out.lt rfl).1)))
              clear hg O5 S5 T5 B5 Q5
              go_wp2_with fail
              exact ⟨⟨k + 1, _, by omega, by go_num, B6, O6, S6, J5, Q6⟩, by simp [intOf]; omega⟩
        · obtain rfl : k = q := by omega
          have MG := hide (show Mg wr w.heap.size (.slice A4 k c4) cur P2 from ⟨O.out, fun y hy => by
            obtain ⟨j, hj⟩ := List.getElem?_of_mem hy
            have hjl := (List.getElem?_eq_some_iff.1 hj).1
            obtain ⟨x, hx⟩ := len_of (d := m) (k := j) (by rw [← S.out.1]; exact hjl)
            exact ((S.out.2 j x y (fun h => h) hx hj).1 (by have := S.out.1; have := HQ.out; omega)).2⟩)
          have RR := hide (show Rel (ColR d) m cur from ⟨S.out.1, fun j x y hx hy => ((S.out.2 j x y (fun h => h) hx hy).1 (by have := (List.getElem?_eq_some_iff.1 hx).1; have := HQ.out; omega)).1⟩)
          clear O S J T
          go_wp2_with fail
          go_ret2
          exact ⟨_, _, _, 0, cur, rfl, ⟨MG.out, .inr ⟨rfl, GOOD.out, RR.out⟩⟩, B.out⟩
end Go.Proofs.YtieicmcbdhaipaaGreat

/-
  The document's Columns.
-/

namespace Go.Proofs.YtieicmcbdhaipaaGreat
open Go.RowKit Go.Proofs.YtieicmcbdhaipaaGreat.Num
set_option linter.unusedVariables false
set_option linter.unusedSimpArgs false
set_option maxRecDepth 100000

def ColQ (d : List Int) (x y : Vx) : Prop := Fm (tms y.d) ∧ ∀ c, 0 ≤ c → gsum (tms y.d) c = gcol d (tms x.d) c

set_option maxHeartbeats 16000000 in
theorem rcolumns_m {w : World} {v u : Value} {m : List Vx} {d : List Int} {L N R P : Nat} (hv : Mv w v m L) (hu : Lr ei 1 w u d) (hN : ∀ x ∈ m, x.d.length ≤ N) (hNN : N ≤ 1000) (hm : m.length ≤ 1000) (hd : d.length ≤ 1000) (h1 : 1 ≤ L) (hL : L ≤ 1000) (hR : N * (L + 1) + 1 ≤ R) (hRR : R ≤ 100000) (hP : d.length * (5 * R + 1) + 6 ≤ P) :
    Calls Tryz.prog 76 #[v, u] w fun e w' => ∃ A k c z m', e = .returned (.tuple #[.slice A k c, .int .i64 z]) ∧ AnsS (Ord d ∧ ¬ MtBad m (d.length : Int)) (ColQ d) m w' w.heap.size P (.slice A k c) z m' ∧ Below w.heap.size w w' := by
  obtain ⟨i0, hi, hz0, hz1, hz2⟩ := info_parts info_tm
  obtain ⟨j0, gi, gz0, gz1, gz2⟩ := info_parts info_row
  obtain ⟨A, c, e1, hc1, hc2, hc3⟩ := id hv.1
  obtain ⟨q, hlen⟩ : ∃ q, q = m.length := ⟨_, rfl⟩
  obtain ⟨D, c2, e2, hd1, hd2, hd3⟩ := id hu
  obtain ⟨p, hpl⟩ : ∃ p, p = d.length := ⟨_, rfl⟩
  rw [← hlen] at e1 hc1
  rw [← hpl] at e2 hd1 hd hP
  subst e1 e2
  have GG := hide (show ∀ (x : Vx) W (z : Int), x ∈ m → 0 ≤ z → Below w.heap.size w W → Calls Tryz.prog 45 #[sv x.a, .int .i64 z] W (RxRet W (gsum (tms x.d) z) 100000000) from fun x W z hx hz hb => by
    have hxn := hN x hx
    have h := vget_f (col := z) ((hv.2 x hx).step hb) (by omega) h1 (by omega)
    rw [gt, if_pos hz] at h
    refine h.mono fun e w' ⟨y, k1, k2, k3, k4⟩ => ⟨y, k1, k2, k3.more ?_, k4⟩
    have := Nat.mul_le_mul (Nat.le_trans hxn hNN) (show 5 * L + 1 ≤ 5001 by omega)
    omega)
  have RZ := hide (show ∀ x ∈ m, ∀ c, Sz Q (gsum (tms x.d) c) R from fun x hx c => by
    refine (sz_gsum (B := Q) Q_two c (tsz (hv.2 x hx) h1)).more Q_pos ?_
    rw [tms_len]
    have := Nat.mul_le_mul_right (L + 1) (hN x hx)
    omega)
  have b0 := alloc_below w (.cells #[] 47)
  have MC := hide (fun W (b : Below w.heap.size w W) => most_m (hv.step b) hN hNN h1 hL hm)
  have PL := hide (order_m (hu.step b0))
  have HV := hide hv
  have HU := hide hu
  have HN := hide hlen
  have HP := hide hpl
  have PB := hide (And.intro hRR (And.intro (show 1 ≤ R by omega) hP))
  have HD := hide hd
  unfold maxLen at hc2 hd2
  have hqm : q ≤ 1000 := by omega
  have T0 := hide (show Mg (w.alloc (.cells #[] 47)) w.heap.size (.slice (some ⟨w.heap.size, 0, none⟩) 0 0) [] P from ⟨Ow.lit (B := w.heap.size) em_len w 47 ([] : List Vx) #[] rfl (Nat.le_refl _) (by simp [maxLen]), fun x hx => by cases hx⟩)
  have B0 := hide b0
  clear hv hu hc3 hd3 hlen hpl hN hNN hm h1 hL hR hRR hP b0
  go_enter Tryz.func76, Tryz.ntmps76
  go_wp2_with fail
  refine PL.out.mono ?_
  rintro e w3 ⟨bx, h⟩
  replace T0 := hide (T0.out.step bx)
  replace B0 := hide (Below.step B0.out B0.out.size bx)
  have OR := hide h
  clear PL h bx
  rcases OR.out with ⟨hno, rfl⟩ | ⟨ho, rfl⟩
  · have BAD := hide (show ¬ (Ord d ∧ ¬ MtBad m (d.length : Int)) from fun h => hno h.1)
    clear OR hno
    go_wp2_with fail
    go_ret2
    exact ⟨_, _, _, 2, [], rfl, ⟨T0.out, .inl ⟨rfl, BAD.out, rfl⟩⟩, B0.out⟩
  · have OD := hide ho
    have MC0 := hide (MC.out _ B0.out)
    clear OR ho MC
    go_wp2_with fail
    refine MC0.out.mono ?_
    rintro e w2 ⟨z, rfl, hz, bx⟩
    replace T0 := hide (T0.out.step bx)
    replace B0 := hide (Below.step B0.out B0.out.size bx)
    have HZ := hide (hz (p : Int) (by omega))
    clear hz bx MC0
    by_cases hge : (p : Int) ≤ z
    · have q4 : decide ((p : Int) ≤ z) = true := decide_eq_true hge
      have BAD := hide (show ¬ (Ord d ∧ ¬ MtBad m (d.length : Int)) from fun h => h.2 (by rw [← HP.out]; exact HZ.out.1 hge))
      clear hge
      go_wp2_with fail
      go_ret2
      exact ⟨_, _, _, 2, [], rfl, ⟨T0.out, .inl ⟨rfl, BAD.out, rfl⟩⟩, B0.out⟩
    · have q4 : decide ((p : Int) ≤ z) = false := decide_eq_false hge
      have GOOD := hide (show Ord d ∧ ¬ MtBad m (d.length : Int) from ⟨OD.out, fun h => hge (HZ.out.2 (by rw [HP.out]; exact h))⟩)
      clear hge HZ
      go_wp2_with fail
      go_loopw [6, 7] (fun ov iv wr => ∃ (k : Nat) (os : List Vx), k ≤ q ∧ iv = .int .i64 (k : Int) ∧ Hid (os.length = k) ∧ Hid (∀ (j : Nat) y, os[j]? = some y → ∀ x, m[j]? = some x → ColQ d x y) ∧ Hid (Below w.heap.size w wr) ∧ Hid (Mg wr w.heap.size ov os P)) (fun _ iv _ => q - (intOf iv).toNat)
      case atStart => exact ⟨0, [], Nat.zero_le _, rfl, hide rfl, hide (fun j x h => by simp at h), B0, T0⟩
      case round =>
        clear B0 T0
        obtain ⟨k, os, hk, rfl, KL, V, B, T⟩ := hrel
        by_cases hlt : k < q
        · obtain ⟨x, hx⟩ := len_of (d := m) (k := k) (by rw [← HN.out]; exact hlt)
          have hxm := List.mem_of_getElem? hx
          have HX := hide hx
          have XM := hide hxm
          have RX := hide (RZ.out x hxm)
          have HLEN := hide (show os.length + 1 ≤ 1000000000000 by have := KL.out; omega)
          have l0 : (0 : Int) ≤ (k : Int) := by omega
          have l1 : (k : Int) < (q : Int) := by omega
          have HC := hide (show ∀ W, Below w.heap.size w W → ∃ b1 off, A = some ⟨b1, off, none⟩ ∧ W.cell? ⟨b1, off + k, none⟩ = some (sv x.a) from fun W h => by
            obtain ⟨b1, off, e, hb, hcs⟩ := (HV.out.1.step h).get hx
            have c0 := hcs 0 _ rfl
            rw [Nat.add_zero, Nat.mul_one] at c0
            exact ⟨b1, off, e, c0⟩)
          obtain ⟨b1, off, rfl, -⟩ := HC.out wr B.out
          have b8 := alloc_below wr (.cells #[] 63)
          have Z0 := hide b8
          have Y0 := hide (show Tg (wr.alloc (.cells #[] 63)) wr.heap.size (.slice (some ⟨wr.heap.size, 0, none⟩) 0 0) [] R from ⟨Ow.lit (B := wr.heap.size) et_len wr 63 ([] : List Tx) #[] rfl (Nat.le_refl _) (by simp [maxLen]), fun x hx => by cases hx⟩)
          clear hx hxm b8
          go_wp2_with fail
          obtain ⟨wo, hwo⟩ : ∃ wo, wo = wr := ⟨_, rfl⟩
          subst hwo
          go_loopw [8, 9] (fun yv cv wr => ∃ (j : Nat) (ys : List Tx), j ≤ p ∧ cv = .int .i64 (j : Int) ∧ Hid (ys.length = j) ∧ Hid (∀ e : Int, 0 ≤ e → gsum (tms ys) e = if e < (j : Int) then gcol d (tms x.d) e else 0) ∧ Hid (Below wo.heap.size wo wr) ∧ Hid (Tg wr wo.heap.size yv ys R)) (fun _ cv _ => p - (intOf cv).toNat)
          case atStart => exact ⟨0, [], Nat.zero_le _, rfl, hide rfl, hide (fun e he => by rw [if_neg (by omega)]; rfl), Z0, Y0⟩
          case round =>
            obtain ⟨j, ys, hj, rfl, YL, YV, Z, Y⟩ := hrel
            have B4 := hide (Below.step B.out B.out.size Z.out)
            by_cases hjt : j < p
            · obtain ⟨zi, hzi⟩ := len_of (d := d) (k := j) (by rw [← HP.out]; exact hjt)
              have hzi0 := (OD.out.1 j zi hzi).1
              have CV := hide (show gcol d (tms x.d) (j : Int) = gsum (tms x.d) zi by unfold gcol; rw [Int.toNat_natCast, hzi])
              have Z5 := hide (show Below wo.heap.size wo wr.drew from Z.out.trans ((Below.refl wr.heap.size wr).drew.mono Z.out.size))
              have Y5 := hide (show Tg wr.drew wo.heap.size _ ys R from Y.out.step (Below.refl wr.heap.size wr).drew)
              have B5 := hide (Below.step B.out B.out.size Z5.out)
              have GC := hide (GG.out x wr.drew zi XM.out hzi0 B5.out)
              have HS := hide (show ∀ W, Below w.heap.size w W → ∃ b2 off2, D = some ⟨b2, off2, none⟩ ∧ W.cell? ⟨b1, off + k, none⟩ = some (sv x.a) ∧ W.cell? ⟨b2, off2 + j, none⟩ = some (.int .i64 zi) from fun W h => by
                obtain ⟨b1', off', e9, c0⟩ := HC.out W h
                injection e9 with e9
                injection e9 with e91 e92
                subst e91 e92
                obtain ⟨b2, off2, e, hb, hcs⟩ := (HU.out.step h).get hzi
                have e0 := hcs 0 _ rfl
                rw [Nat.add_zero, Nat.mul_one] at e0
                exact ⟨b2, off2, e, c0, e0⟩)
              obtain ⟨b2, off2, rfl, c0, e0⟩ := HS.out wr B4.out
              have HS2 := hide (show ∀ W, Below w.heap.size w W → W.cell? ⟨b1, off + k, none⟩ = some (sv x.a) ∧ W.cell? ⟨b2, off2 + j, none⟩ = some (.int .i64 zi) from fun W h => by
                obtain ⟨b2', off2', e9, c0, e0⟩ := HS.out W h
                injection e9 with e9
                injection e9 with e91 e92
                subst e91 e92
                exact ⟨c0, e0⟩)
              have YLEN := hide (show ys.length + 1 ≤ 1000000000000 by have := YL.out; have := HD.out; omega)
              have m0 : (0 : Int) ≤ (j : Int) := by omega
              have m1 : (j : Int) < (p : Int) := by omega
              clear hzi hzi0 HS
              go_wp2_with fail
              go_region_held3 (fun W => W.cell? ⟨b1, off + k, none⟩ = some (sv x.a) ∧ W.cell? ⟨b2, off2 + j, none⟩ = some (.int .i64 zi))
                (with_reducible first | exact HS2.out _ B5.out | exact HS2.out _ B6.out | exact HS2.out _ B7.out | exact HS2.out _ (B7.out.alloc B7.out.size _) | exact HS2.out _ B8.out)
                (first
                  | (go_at_call 45; refine Calls.mono GC.out ?_; rintro e w6 ⟨x1, rfl, hx1, rg, bx⟩; have Y6 := hide (Y5.out.step bx); have Z6 := hide (Below.step Z5.out Z5.out.size bx); have B6 := hide (Below.step B5.out B5.out.size bx); have R6 := hide rg; have X6 := hide hx1; clear rg hx1 bx)
                  | (go_at_call 26; refine Calls.mono (rfto_g R6.out (by omega)) ?_; rintro e w7 ⟨z1, rfl, hzr, rz, bx⟩; have H7 := hide (show z1.r = gsum (tms x.d) zi from hzr.trans X6.out); have Y7 := hide (Y6.out.step bx); have Z7 := hide (Below.step Z6.out Z6.out.size bx); have B7 := hide (Below.step B6.out B6.out.size bx); have X7 := hide ((rz.mono (B' := wo.heap.size) Z6.out.size).fit (M := R) (by rw [H7.out]; exact RX.out _)); clear hzr rz bx)
                  | (refine step_pushE rfl (.tmp 35) (.tmp 48) 47 rfl Tryz.underlying47 hi hz0 hz1 hz2 rfl (by omega) et_len et_one w7 wo.heap.size _ ys ⟨(j : Int), z1⟩ _ rfl Y7.out.1 rfl rfl YLEN.out (by decide) Z7.out.size ?_; intro v' w' ho hg; have YF := hide (Y7.out.push ho hg.1 X7.out (Nat.le_refl _)); have ZF := hide (below_own Z7.out Y7.out.1 hg.1 Z7.out.size); have B8 := hide (Below.step B.out B.out.size ZF.out); clear ho hg))
              all_goals
                have K2 := hide (show (ys ++ [(⟨(j : Int), z1⟩ : Tx)]).length = j + 1 by have := YL.out; simp; omega)
                have V2 := hide (show ∀ e : Int, 0 ≤ e → gsum (tms (ys ++ [(⟨(j : Int), z1⟩ : Tx)])) e = if e < ((j + 1 : Nat) : Int) then gcol d (tms x.d) e else 0 from fun e he => by
                  rw [show tms (ys ++ [(⟨(j : Int), z1⟩ : Tx)]) = tms ys ++ [((j : Int), z1.r)] by rw [tms_append]; rfl, gsum_snoc, YV.out e he]
                  by_cases ee : e = (j : Int)
                  · subst ee
                    rw [if_neg (by omega), if_pos rfl, if_pos (by omega), Rat.zero_add, CV.out]
                    exact H7.out
                  · rw [show (if ((j : Int), z1.r).1 = e then ((j : Int), z1.r).2 else 0) = (0 : Rat) from if_neg (fun h => ee h.symm), Rat.add_zero]
                    by_cases e2 : e < (j : Int)
                    · rw [if_pos e2, if_pos (by omega)]
                    · rw [if_neg e2, if_neg (by omega)])
                clear c0 e0 GC HS2 Y5 Z5 B5
                go_wp2_with fail
                exact ⟨⟨j + 1, ys ++ [⟨(j : Int), z1⟩], by omega, by go_num, K2, V2, ZF, YF⟩, by simp [intOf]; omega⟩
            · obtain rfl : j = p := by omega
              have T2 := hide (T.out.step Z.out)
              have VV := hide (show ∀ e : Int, 0 ≤ e → gsum (tms ys) e = gcol d (tms x.d) e from fun e he => by
                rw [YV.out e he]
                by_cases e2 : e < (j : Int)
                · rw [if_pos e2]
                · rw [if_neg e2]
                  unfold gcol
                  rw [List.getElem?_eq_none (by have := HP.out; omega)])
              have YR := hide (show ys.length = j from YL.out)
              have CM := hide (vmake_fl Y.out.tv (by have := YL.out; omega) PB.out.2.1 PB.out.1)
              obtain ⟨A7, n7, c7, rfl⟩ := rv_sl Y.out.tv.1
              clear T Z Y
              go_wp2_with fail
              refine CM.out.mono ?_
              rintro e w5 ⟨v5, l5, rfl, t5, f5, g5, n5, bx⟩
              obtain ⟨A5, n5', c5, rfl⟩ := rv_sl t5.tv.1
              have T5 := hide (T2.out.step bx)
              have B6 := hide (Below.step B4.out B4.out.size bx)
              have X5 := hide ((t5.mono (B' := w.heap.size) B4.out.size).more (M := P) (by rw [YR.out]; exact PB.out.2.2))
              have PQ := hide (show ColQ d x ⟨(A5, n5', c5), l5⟩ from ⟨f5, fun c hc => (g5 c hc).trans (VV.out c hc)⟩)
              clear t5 f5 g5 n5 bx CM T2 B4
              go_wp2_with (at_builtin; go_must (refine wpList_pushE rfl (.tmp 50) (.tmp 53) 72 rfl Tryz.underlying72 gi gz0 gz1 gz2 rfl (by omega) em_len em_one w5 w.heap.size _ os ⟨(A5, n5', c5), l5⟩ _ rfl T5.out.1 rfl rfl HLEN.out (by decide) B6.out.size ?_); intro v' w' ho hg; have TF := hide (T5.out.push ho hg.1 X5.out); have CF := hide (below_own B6.out T5.out.1 hg.1 B6.out.size); clear ho hg)
              have K2 := hide (show (os ++ [(⟨(A5, n5', c5), l5⟩ : Vx)]).length = k + 1 by have := KL.out; simp; omega)
              have V2 := hide (get_snoc (R := fun (i : Nat) (y : Vx) => ∀ x, m[i]? = some x → ColQ d x y) KL.out V.out (fun x' hx' => by have h := HX.out; rw [h] at hx'; injection hx' with hx'; subst hx'; exact PQ.out))
              exact ⟨⟨k + 1, os ++ [⟨(A5, n5', c5), l5⟩], by omega, by go_num, K2, V2, CF, TF⟩, by simp [intOf]; omega⟩
        · obtain rfl : k = q := by omega
          obtain ⟨A7, n7, c7, rfl⟩ := rv_sl (T.out.1.rl em_len)
          go_wp2_with fail
          go_ret2
          exact ⟨_, _, _, 0, os, rfl, ⟨T.out, .inr ⟨rfl, GOOD.out, by rw [KL.out]; exact HN.out, fun j x y hx hy => V.out j y hy x hx⟩⟩, B.out⟩
end Go.Proofs.YtieicmcbdhaipaaGreat

/-
  Answers of Rows and Columns are one; rows behind a spoil.
-/

namespace Go.Proofs.YtieicmcbdhaipaaGreat
open Go.RowKit Go.Proofs.YtieicmcbdhaipaaGreat.Num
set_option linter.unusedVariables false
set_option linter.unusedSimpArgs false
set_option maxRecDepth 100000

theorem ans_eq {ok ok' : Prop} {R R' : Vx → Vx → Prop} {mo mo' m1 m2 : List Vx} {W W' : World} {B B' P P' : Nat} {v v' : Value} {z z' : Int} (h : AnsS ok R mo W B P v z m1) (k : AnsS ok' R' mo' W' B' P' v' z' m2) (hok : ok ↔ ok') (hl : mo.length = mo'.length)
    (hR : ∀ (j : Nat) x x' y y', mo[j]? = some x → mo'[j]? = some x' → R x y → R' x' y' → tms y.d = tms y'.d) : z = z' ∧ m2.length = m1.length ∧ ∀ (i : Nat) x y, m1[i]? = some x → m2[i]? = some y → tms x.d = tms y.d := by
  rcases h.2 with ⟨rfl, h1, rfl⟩ | ⟨rfl, h1, h2⟩
  · rcases k.2 with ⟨rfl, k1, rfl⟩ | ⟨rfl, k1, k2⟩
    · exact ⟨rfl, rfl, fun i x y hx => by simp at hx⟩
    · exact absurd (hok.2 k1) h1
  · rcases k.2 with ⟨rfl, k1, rfl⟩ | ⟨rfl, k1, k2⟩
    · exact absurd (hok.1 h1) k1
    · refine ⟨rfl, by rw [h2.1, k2.1, hl], fun i y y' hy hy' => ?_⟩
      obtain ⟨x, hx⟩ := len_of (d := mo) (k := i) (by rw [← h2.1]; exact (List.getElem?_eq_some_iff.1 hy).1)
      obtain ⟨x', hx'⟩ := len_of (d := mo') (k := i) (by rw [← k2.1]; exact (List.getElem?_eq_some_iff.1 hy').1)
      exact hR i x x' y y' hx hx' (h2.2 i x y hx hy) (k2.2 i x' y' hx' hy')
theorem at_tms {m m5 : List Vx} (he : rwA m5 = rwA m) {i : Nat} {x x' : Vx} (hx : m5[i]? = some x) (hx' : m[i]? = some x') : tms x.d = tms x'.d := by
  rw [← rwA_in hx, ← rwA_in hx', he]
theorem po_tms {m m5 : List Vx} {d : List Int} (he : rwA m5 = rwA m) (hl : m5.length = m.length) {j : Nat} {x x' : Vx} (hx : (po m5 d)[j]? = some x) (hx' : (po m d)[j]? = some x') : tms x.d = tms x'.d := by
  unfold po at hx hx'
  rw [List.getElem?_map] at hx hx'
  cases hz : d[j]? with
  | none => rw [hz] at hx; cases hx
  | some z =>
    rw [hz] at hx hx'
    simp only [Option.map_some, Option.some.injEq] at hx hx'
    by_cases hi : z.toNat < m.length
    · obtain ⟨a, ha⟩ := len_of (d := m5) (k := z.toNat) (by omega)
      obtain ⟨b, hb⟩ := len_of (d := m) (k := z.toNat) hi
      rw [ha] at hx
      rw [hb] at hx'
      simp only [Option.getD_some] at hx hx'
      rw [← hx, ← hx']
      exact at_tms he ha hb
    · rw [List.getElem?_eq_none (by omega)] at hx hx'
      rw [← hx, ← hx']
theorem mtbad_eq {m m5 : List Vx} (he : rwA m5 = rwA m) (hl : m5.length = m.length) (n : Int) : MtBad m5 n → MtBad m n := by
  rintro ⟨x, hx, c, h1, h2, h3⟩
  obtain ⟨j, hj⟩ := List.getElem?_of_mem hx
  obtain ⟨y, hy⟩ := len_of (d := m) (k := j) (by have := (List.getElem?_eq_some_iff.1 hj).1; omega)
  exact ⟨y, List.mem_of_getElem? hy, c, h1, h2, by rw [← at_tms he hj hy]; exact h3⟩
theorem spn_rows {w w' : World} {B C B2 C2 K : Nat} (k : Spn B2 C2 w w') : ∀ m : List Vx, (∀ x ∈ m, SpC w B C (sv x.a) x.d ∧ x.d.length ≤ K) → ∃ m' : List Vx, m'.map Vx.a = m.map Vx.a ∧ ∀ x ∈ m', SpC w' B C (sv x.a) x.d ∧ x.d.length ≤ K
  | [], _ => ⟨[], rfl, fun x hx => by cases hx⟩
  | x :: m, h => by
    obtain ⟨m', h1, h2⟩ := spn_rows k m (fun y hy => h y (by simp [hy]))
    obtain ⟨hs, hk⟩ := h x (by simp)
    obtain ⟨d', h3, h4⟩ := hs.spn k
    refine ⟨⟨x.a, d'⟩ :: m', by simp [h1], fun y hy => ?_⟩
    rcases List.mem_cons.1 hy with rfl | hy
    · exact ⟨h3, by show d'.length ≤ K; omega⟩
    · exact h2 y hy
theorem flat_em : ∀ m : List Vx, flat em m = (m.map Vx.a).map sv
  | [] => rfl
  | x :: m => by rw [flat, flat_em m]; rfl
theorem ow_em {W : World} {B : Nat} {v : Value} {m m' : List Vx} (h : Ow 47 em 1 W B v m) (he : m'.map Vx.a = m.map Vx.a) : Ow 47 em 1 W B v m' := by
  have hl : m'.length = m.length := by have := congrArg List.length he; simpa using this
  unfold Ow at h ⊢
  rw [flat_em, he, hl, ← flat_em]
  exact h
theorem anss_mono {ok : Prop} {R : Vx → Vx → Prop} {mo m' : List Vx} {W : World} {B B' P : Nat} {v : Value} {z : Int} (h : AnsS ok R mo W B P v z m') (hB : B' ≤ B) : AnsS ok R mo W B' P v z m' := ⟨h.1.mono hB, h.2⟩
theorem anss_lens {ok : Prop} {R : Vx → Vx → Prop} {mo m' : List Vx} {W : World} {B P K : Nat} {v : Value} {z : Int} (h : AnsS ok R mo W B P v z m') (hK : ∀ x y, x ∈ mo → R x y → y.d.length ≤ K) : (∀ y ∈ m', y.d.length ≤ K) ∧ m'.length ≤ mo.length := by
  rcases h.2 with ⟨_, _, rfl⟩ | ⟨_, _, h2⟩
  · exact ⟨fun y hy => (by cases hy), Nat.zero_le _⟩
  · refine ⟨fun y hy => ?_, by rw [h2.1]; exact Nat.le_refl _⟩
    obtain ⟨j, hj⟩ := List.getElem?_of_mem hy
    obtain ⟨x, hx⟩ := len_of (d := mo) (k := j) (by rw [← h2.1]; exact (List.getElem?_eq_some_iff.1 hj).1)
    exact hK x y (List.mem_of_getElem? hx) (h2.2 j x y hx hj)
theorem po_mem {m : List Vx} {d : List Int} {N : Nat} (hN : ∀ x ∈ m, x.d.length ≤ N) : ∀ x ∈ po m d, x.d.length ≤ N := by
  intro x hx
  obtain ⟨z, _, rfl⟩ := List.mem_map.1 hx
  cases h : m[z.toNat]? with
  | none => simp [zvx]
  | some y =>
    simp only [Option.getD_some]
    exact hN y (List.mem_of_getElem? h)
end Go.Proofs.YtieicmcbdhaipaaGreat
