/-
  mat.Product and mat.Transpose with bounds that fit what follows them.
-/
import Derived.Test.YtieicmcbdhaipaaGreatMat15
import Derived.Test.YtieicmcbdhaipaaGreatBundleK
import Derived.Test.YtieicmcbdhaipaaGreatFl


namespace Go.Proofs.YtieicmcbdhaipaaGreat
open Go.RowKit Go.Proofs.YtieicmcbdhaipaaGreat.Num
set_option linter.unusedVariables false
set_option linter.unusedSimpArgs false
set_option maxRecDepth 100000

/-- A row of a product. -/
def PrR (b : List Vx) (x y : Vx) : Prop := Fm (tms y.d) ∧ ∀ c, 0 ≤ c → gsum (tms y.d) c = dt (tms x.d) (fun i => gsum (rwA b i) c)
theorem product6 {w : World} {v u : Value} {m b : List Vx} (hv : Mv w v m 6) (hu : Mv w u b 6) (hm : ∀ x ∈ m, x.d.length ≤ 30) (hb : ∀ x ∈ b, x.d.length ≤ 30) (hml : m.length ≤ 12) (hbl : b.length ≤ 12) :
    Calls Tryz.prog 72 #[v, u] w fun e w' => ∃ A n c m', e = .returned (.slice A n c) ∧ Mg w' w.heap.size (.slice A n c) m' 5077 ∧ m'.length = m.length ∧ (∀ x ∈ m', x.d.length ≤ 900) ∧ (∀ (j : Nat) x y, m[j]? = some x → m'[j]? = some y → PrR b x y) ∧ Below w.heap.size w w' := by
  refine (product_m (N1 := 30) (N := 30) (P := 391) (Q := 352801) hv hu hm hb (fun q hq => by omega) (by omega) (by omega) (by omega) (by omega) (by omega) (by omega) (by omega) (by omega) (by omega) (by omega)).mono ?_
  rintro e w' ⟨v', m', rfl, o, s, bx⟩
  obtain ⟨A, n, c, rfl⟩ := rv_sl (o.rl em_len)
  have hg := s.mg o
  have hr : ∀ y ∈ m', ∃ x ∈ m, PrOk b 30 x y := fun y hy => by
    obtain ⟨j, hj⟩ := List.getElem?_of_mem hy
    obtain ⟨x, hx⟩ := len_of (d := m) (k := j) (by rw [← s.1]; exact (List.getElem?_eq_some_iff.1 hj).1)
    exact ⟨x, List.mem_of_getElem? hx, s.rel hx hj⟩
  refine ⟨A, n, c, m', rfl, ⟨o, fun y hy => ?_⟩, s.1, fun y hy => ?_, fun j x y hx hy => ⟨(s.rel hx hy).1, (s.rel hx hy).2.1⟩, bx⟩
  · obtain ⟨x, hx, h1, h2, h3⟩ := hr y hy
    exact (hg.2 y hy).fitS h1 (fun c hc => by rw [h2 c hc]; exact sz_prod hv hu hm hb hbl hx c)
  · obtain ⟨x, hx, h1, h2, h3⟩ := hr y hy
    have := hm x hx
    have := Nat.mul_le_mul_right 30 this
    omega
/-- A column. -/
def TrR (m : List Vx) (m' : List Vx) : Prop := ∀ (c : Nat) y, m'[c]? = some y → Fm (tms y.d) ∧ (∀ i : Int, 0 ≤ i → gsum (tms y.d) i = gsum (rwA m i) (c : Int)) ∧ y.d.length ≤ m.length
/-- What Transpose answers: a list and an error's number. -/
def TrS (m : List Vx) (n : Int) (W : World) (B P : Nat) (v : Value) (z : Int) (m' : List Vx) : Prop :=
  (z = 2 ∧ TrBad m n) ∨ (z = 0 ∧ ¬ TrBad m n ∧ Mg W B v m' P ∧ (m'.length : Int) = n ∧ TrR m m')
theorem transpose_s {w : World} {v : Value} {m : List Vx} {L N P : Nat} {n : Int} (hv : Mv w v m L) (hN : ∀ x ∈ m, x.d.length ≤ N) (hNN : N ≤ 1000) (hm : m.length ≤ 1000) (h1 : 1 ≤ L) (hL : L ≤ 100000) (hP : N * (L + 1) + 1 ≤ P) :
    Calls Tryz.prog 67 #[v, .int .i64 n] w fun e w' => ∃ A k c z m', e = .returned (.tuple #[.slice A k c, .int .i64 z]) ∧ TrS m n w' w.heap.size P (.slice A k c) z m' ∧ Below w.heap.size w w' := by
  refine (transpose_m (n := n) hv hN hNN hm h1 hL hP).mono ?_
  rintro e w' ⟨bx, (⟨h, rfl⟩ | ⟨h, v', m', rfl, o, hl, hr, -⟩)⟩
  · exact ⟨none, 0, 0, 2, [], rfl, .inl ⟨rfl, h⟩, bx⟩
  · obtain ⟨A, k, c, rfl⟩ := rv_sl (o.rl em_len)
    refine ⟨A, k, c, 0, m', rfl, .inr ⟨rfl, h, ⟨o, fun y hy => ?_⟩, hl, fun c y hy => ⟨(hr c y hy).1, (hr c y hy).2.1, ?_⟩⟩, bx⟩
    · obtain ⟨j, hj⟩ := List.getElem?_of_mem hy
      exact (hr j y hj).2.2.2
    · have := fm_len (hr c y hy).1 (n := m.length) (fun i hi => by
        rw [(hr c y hy).2.1 i (by omega), rwA_out m i (.inr hi)]
        rfl)
      rw [tms_len] at this
      exact this
/-- A product's places are the second's. -/
theorem prod_bad {m b p : List Vx} {n : Int} (hp : p.length = m.length) (hr : ∀ (j : Nat) x y, m[j]? = some x → p[j]? = some y → PrR b x y) (h : ¬ TrBad b n) : ¬ TrBad p n := by
  intro hb
  rcases hb with ⟨y, hy, c, h1, h2, h3⟩ | hb
  · refine h (.inl ?_)
    obtain ⟨j, hj⟩ := List.getElem?_of_mem hy
    obtain ⟨x, hx⟩ := len_of (d := m) (k := j) (by rw [← hp]; exact (List.getElem?_eq_some_iff.1 hj).1)
    have h4 := (hr j x y hx hj).2 c h2
    rw [dt_rows (m := b) (y := gsum (tms x.d)) (fun _ _ => rfl) c] at h4
    by_cases hall : ∀ z ∈ b, gsum (tms z.d) c = 0
    · exfalso
      refine h3 ?_
      rw [h4, sm_congr (g := fun _ => 0) (fun k hk => ?_), sm_zero]
      obtain ⟨z, hz⟩ := len_of (d := b) (k := k) hk
      rw [rwA_in hz, hall z (List.mem_of_getElem? hz), Rat.mul_zero]
    · have : ∃ z ∈ b, gsum (tms z.d) c ≠ 0 := by
        apply Classical.byContradiction
        intro hn
        exact hall (fun z hz => Classical.byContradiction (fun h0 => hn ⟨z, hz, h0⟩))
      obtain ⟨z, hz, h0⟩ := this
      exact ⟨z, hz, c, h1, h2, h0⟩
  · exact h (.inr hb)
theorem xf_times {b : List Vx} {l f : List Rx} (hl : l.length = b.length) (h : ∀ (j : Nat) x, l[j]? = some x → x.r = dt (rwA b (j : Int)) (xf f)) : xf l = fun i => dt (rwA b i) (xf f) := by
  funext i
  by_cases hi : i < 0 ∨ (b.length : Int) ≤ i
  · rw [xf_out l i (by omega), rwA_out b i hi]
    rfl
  · have e : i = ((i.toNat : Nat) : Int) := by omega
    obtain ⟨x, hx⟩ := len_of (d := l) (k := i.toNat) (by omega)
    rw [e, xf_in hx, h _ x hx]
/-- (A times B) times x = A times (B times x). -/
theorem groups_eq {m b p : List Vx} {f l8 l9 l10 : List Rx} (hp : p.length = m.length) (hr : ∀ (j : Nat) x y, m[j]? = some x → p[j]? = some y → PrR b x y)
    (n8 : l8.length = p.length) (h8 : ∀ (j : Nat) x, l8[j]? = some x → x.r = dt (rwA p (j : Int)) (xf f)) (n9 : l9.length = b.length) (h9 : ∀ (j : Nat) x, l9[j]? = some x → x.r = dt (rwA b (j : Int)) (xf f))
    (n10 : l10.length = m.length) (h10 : ∀ (j : Nat) x, l10[j]? = some x → x.r = dt (rwA m (j : Int)) (xf l9)) : l8.map Rx.r = l10.map Rx.r := by
  apply List.ext_getElem?
  intro j
  by_cases hj : j < m.length
  · obtain ⟨x, hx⟩ := len_of (d := l8) (k := j) (by omega)
    obtain ⟨y, hy⟩ := len_of (d := l10) (k := j) (by omega)
    obtain ⟨xm, hm⟩ := len_of (d := m) (k := j) hj
    obtain ⟨yp, hyp⟩ := len_of (d := p) (k := j) (by omega)
    rw [List.getElem?_map, List.getElem?_map, hx, hy, Option.map_some, Option.map_some, h8 j x hx, h10 j y hy, rwA_in hm, rwA_in hyp, xf_times n9 h9]
    rw [dt_prod f.length (fun c hc => xf_out f c hc) (hr j xm yp hm hyp).2]
  · rw [List.getElem?_eq_none (by rw [List.length_map]; omega), List.getElem?_eq_none (by rw [List.length_map]; omega)]
/-- The columns of a product. -/
theorem cols_eq {m b p s t u q : List Vx} (hp : p.length = m.length) (hr : ∀ (j : Nat) x y, m[j]? = some x → p[j]? = some y → PrR b x y)
    (hs : (s.length : Int) = (b.length : Int)) (sr : TrR m s) (tr : TrR b t) (ur : TrR p u) (qr : ∀ (j : Nat) x y, t[j]? = some x → q[j]? = some y → PrR s x y) (hq : q.length = t.length) :
    ∀ (c : Nat) x y, u[c]? = some x → q[c]? = some y → tms x.d = tms y.d := by
  intro c x y hx hy
  obtain ⟨tc, htc⟩ := len_of (d := t) (k := c) (by rw [← hq]; exact (List.getElem?_eq_some_iff.1 hy).1)
  have h1 := ur c x hx
  have h2 := qr c tc y htc hy
  refine Fm.unique h1.1 h2.1 (fun i hi => ?_)
  rw [h1.2.1 i hi, h2.2 i hi]
  exact prod_cols (m := m) (b := b) hi (by omega) hp (fun j x y hx hy => (hr j x y hx hy).2) (by omega) (fun k y hy => (sr k y hy).2.1) (fun k hk => (tr c tc htc).2.1 k hk)
end Go.Proofs.YtieicmcbdhaipaaGreat
