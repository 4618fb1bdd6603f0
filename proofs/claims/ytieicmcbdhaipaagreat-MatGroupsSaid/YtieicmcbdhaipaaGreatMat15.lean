/-
  Sums over sums: a product of rows times a list; the columns of a product.
-/
import Derived.Test.YtieicmcbdhaipaaGreatBundleK
import Derived.Test.YtieicmcbdhaipaaGreatBundleJ


namespace Go.Proofs.YtieicmcbdhaipaaGreat
open Go.RowKit Go.Proofs.YtieicmcbdhaipaaGreat.Num
set_option linter.unusedVariables false
set_option linter.unusedSimpArgs false
set_option maxRecDepth 100000

theorem smx_mul (n : Nat) (a : Rat) (f : Nat → Rat) : sm n (fun i => a * f i) = a * sm n f := by
  induction n with
  | zero => simp [sm, Rat.mul_zero]
  | succ n ih => simp only [sm, ih]; grind
theorem smx_add (n : Nat) (f g : Nat → Rat) : sm n (fun i => f i + g i) = sm n f + sm n g := by
  induction n with
  | zero => simp [sm, Rat.add_zero]
  | succ n ih => simp only [sm, ih]; grind
theorem sm_dt (n : Nat) (F : Int → Int → Rat) (z : Int → Rat) : ∀ ts : List Tm, sm n (fun c => dt ts (fun i => F i (c : Int)) * z (c : Int)) = dt ts (fun i => sm n (fun c => F i (c : Int) * z (c : Int)))
  | [] => by
    simp only [dt]
    rw [sm_congr (g := fun _ => 0) (fun i _ => Rat.zero_mul _), sm_zero]
  | t :: ts => by
    simp only [dt]
    rw [← sm_dt n F z ts, ← smx_mul, ← smx_add]
    exact sm_congr (fun i _ => by grind)
/-- A product's row times a list. -/
theorem dt_prod {ts o : List Tm} {b : List Vx} {z : Int → Rat} (n : Nat) (hz : ∀ c, c < 0 ∨ (n : Int) ≤ c → z c = 0) (ho : ∀ c, 0 ≤ c → gsum o c = dt ts (fun i => gsum (rwA b i) c)) : dt o z = dt ts (fun i => dt (rwA b i) z) := by
  rw [dt_sum o n z hz, sm_congr (g := fun c => dt ts (fun i => gsum (rwA b i) (c : Int)) * z (c : Int)) (fun c _ => by rw [gt, if_pos (by omega), ho _ (by omega)])]
  rw [sm_dt n (fun i c => gsum (rwA b i) c) z ts]
  congr 1
  funext i
  rw [dt_sum (rwA b i) n z hz]
  exact sm_congr (fun c _ => by rw [gt, if_pos (by omega)])
theorem pw_len {n : Int} : ∀ (ts : List Tm) (a : Int), ts.Pairwise (fun a b => a.1 < b.1) → (∀ t ∈ ts, a ≤ t.1 ∧ t.1 < n) → (ts.length : Int) ≤ max 0 (n - a)
  | [], a, _, _ => by simp; omega
  | t :: ts, a, h, hb => by
    have h1 := List.pairwise_cons.1 h
    have h2 := hb t (by simp)
    have ih := pw_len ts (t.1 + 1) h1.2 (fun x hx => ⟨by have := h1.1 x hx; omega, (hb x (by simp [hx])).2⟩)
    rw [List.length_cons]
    omega
theorem fm_len {ts : List Tm} (h : Fm ts) {n : Nat} (hz : ∀ i : Int, (n : Int) ≤ i → gsum ts i = 0) : ts.length ≤ n := by
  have := pw_len (n := (n : Int)) ts 0 h.1 (fun t ht => by
    obtain ⟨h1, h2⟩ := fm_at h ht
    refine ⟨h2, ?_⟩
    rcases Int.lt_or_le t.1 (n : Int) with h3 | h3
    · exact h3
    · rw [hz _ h3] at h1
      exact absurd h1.symm (h.2 t ht).2)
  omega
/-- The columns of a product are the product of the columns, turned about. -/
theorem prod_cols {m b p s : List Vx} {i c : Int} (hi : 0 ≤ i) (hc : 0 ≤ c) {yc : List Tm}
    (hp : p.length = m.length) (hpr : ∀ (j : Nat) x y, m[j]? = some x → p[j]? = some y → ∀ c, 0 ≤ c → gsum (tms y.d) c = dt (tms x.d) (fun i => gsum (rwA b i) c))
    (hs : s.length = b.length) (hsr : ∀ (k : Nat) y, s[k]? = some y → ∀ i : Int, 0 ≤ i → gsum (tms y.d) i = gsum (rwA m i) (k : Int))
    (ht : ∀ k : Int, 0 ≤ k → gsum yc k = gsum (rwA b k) c) : gsum (rwA p i) c = dt yc (fun k => gsum (rwA s k) i) := by
  rw [dt_rows (m := s) (y := fun k => gsum (rwA b k) c) ht i, hs]
  have h2 : sm b.length (fun k => gsum (rwA b (k : Int)) c * gsum (rwA s (k : Int)) i) = sm b.length (fun k => gsum (rwA m i) (k : Int) * gsum (rwA b (k : Int)) c) := sm_congr (fun k hk => by
    obtain ⟨y, hy⟩ := len_of (d := s) (k := k) (by omega)
    rw [rwA_in hy, hsr k y hy i hi, Rat.mul_comm])
  rw [h2]
  by_cases hin : i < (m.length : Int)
  · have e : i = ((i.toNat : Nat) : Int) := by omega
    obtain ⟨x, hx⟩ := len_of (d := m) (k := i.toNat) (by omega)
    obtain ⟨y, hy⟩ := len_of (d := p) (k := i.toNat) (by omega)
    rw [e, rwA_in hx, rwA_in hy, hpr _ x y hx hy c hc]
    exact dt_rows (m := b) (y := gsum (tms x.d)) (fun _ _ => rfl) c
  · rw [rwA_out m i (.inr (by omega)), rwA_out p i (.inr (by omega))]
    have e0 : ∀ k : Int, gsum [] k = 0 := fun _ => rfl
    rw [sm_congr (g := fun _ => 0) (fun k _ => by rw [e0, Rat.zero_mul]), sm_zero]
    rfl
/-- The size of a product's numbers. -/
theorem sz_prod {W : World} {v u : Value} {m b : List Vx} (hv : Mv W v m 6) (hu : Mv W u b 6) (hm : ∀ x ∈ m, x.d.length ≤ 30) (hb : ∀ x ∈ b, x.d.length ≤ 30) (hl : b.length ≤ 12) {x : Vx} (hx : x ∈ m) (c : Int) : Sz Q (dt (tms x.d) (fun i => gsum (rwA b i) c)) 5077 := by
  rw [dt_rows (m := b) (y := gsum (tms x.d)) (fun _ _ => rfl) c]
  have hx6 := tsz (hv.2 x hx) (by omega)
  have hd := hm x hx
  refine (sz_rows (K := 211) (L := 6) (N := 30) (y := gsum (tms x.d)) (by omega) (fun i => (sz_gsum (B := Q) Q_two i hx6).more Q_pos (by rw [tms_len]; omega)) (fun i => rwA_szs hu hb (by omega) i) c b.length).more Q_pos (by
    have := Nat.mul_le_mul_right 423 hl
    omega)
end Go.Proofs.YtieicmcbdhaipaaGreat
