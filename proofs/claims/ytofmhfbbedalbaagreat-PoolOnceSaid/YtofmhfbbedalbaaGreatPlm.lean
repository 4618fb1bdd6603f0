
/-
 Cuts scaled, and pools of them: what a cut's form is, what comes of adding one, what stays. Plain mathematics: no Go here.
-/
import Derived.Test.YtofmhfbbedalbaaGreatBundleM

namespace Go.Proofs.YtofmhfbbedalbaaGreat.Num
set_option linter.unusedVariables false
theorem fm_gmul {q : Rat} (hq : q ≠ 0) {ts : List Tm} (h : Fm ts) : Fm (gmul q ts) := by
 refine ⟨?_, fun t ht => ?_⟩
 ·unfold gmul
  rw [List.pairwise_map]
  exact h.1
 ·obtain ⟨u, hu, rfl⟩ := List.mem_map.1 ht
  have := h.2 u hu
  refine ⟨this.1, fun e => ?_⟩
  rcases Rat.mul_eq_zero.1 e with e | e
  ·exact hq e
  ·exact this.2 e
def Unt (b : List Tm) : Prop := b = [] ∨ ∃ c t r, b = (c, t) :: r ∧ (t = 1 ∨ t = -1)
def Scl (a : List Tm) (x : Rat) (b : List Tm) (y : Rat) : Prop :=
 Fm b ∧ Unt b ∧ ∃ q : Rat, 0 < q ∧ (b = [] → q = 1) ∧ (∀ c, 0 ≤ c → gsum b c = q * gsum a c) ∧ y = q * x
theorem pos_unit {q t u : Rat} (hq : 0 < q) (ht : t = 1 ∨ t = -1) (hu : u = 1 ∨ u = -1) (e : t = q * u) : q = 1 := by
 rcases ht with rfl | rfl <;> rcases hu with rfl | rfl <;> grind
theorem Scl.unique {a b b' : List Tm} {x y y' : Rat} (h : Scl a x b y) (k : Scl a x b' y') : b = b' ∧ y = y' := by
 obtain ⟨h1, h2, q, h3, h4, h5, rfl⟩ := h
 obtain ⟨k1, k2, p, k3, k4, k5, rfl⟩ := k
 have p0 : p ≠ 0 := by grind
 have q0 : q ≠ 0 := by grind
 have pp : p * p⁻¹ = 1 := Rat.mul_inv_cancel p p0
 have pi : 0 < p⁻¹ := by
  refine Rat.not_le.1 fun h => ?_
  have := Rat.mul_le_mul_of_nonneg_left h (Rat.le_of_lt k3)
  rw [pp, Rat.mul_zero] at this
  exact absurd this (by decide +kernel)
 have f0 : q * p⁻¹ ≠ 0 := by
  intro e
  rcases Rat.mul_eq_zero.1 e with e | e <;> grind
 have fp : 0 < q * p⁻¹ := Rat.mul_pos h3 pi
 have e1 : b = gmul (q * p⁻¹) b' := by
  refine h1.unique (fm_gmul f0 k1) (fun c hc => ?_)
  rw [gsum_mul, h5 c hc, k5 c hc]
  have : q * p⁻¹ * (p * gsum a c) = q * gsum a c * (p * p⁻¹) := by grind
  rw [this, pp, Rat.mul_one]
 rcases h2 with rfl | ⟨c, t, r, rfl, ht⟩
 ·have e2 : b' = [] := by
   cases b' with
   | nil => rfl
   | cons u us => simp [gmul] at e1
  subst e2
  rw [h4 rfl, k4 rfl]
  exact ⟨rfl, rfl⟩
 ·rcases k2 with rfl | ⟨c', t', r', rfl, ht'⟩
  ·simp [gmul] at e1
  ·have e3 : t = q * p⁻¹ * t' := by
    simp only [gmul, List.map_cons, List.cons.injEq, Prod.mk.injEq] at e1
    exact e1.1.2
   have e4 := pos_unit fp ht ht' e3
   have e5 : q = p := by
    have : q * p⁻¹ * p = p := by rw [e4, Rat.one_mul]
    have h7 : q * p⁻¹ * p = q * (p * p⁻¹) := by grind
    rw [h7, pp, Rat.mul_one] at this
    exact this
   subst e5
   refine ⟨?_, rfl⟩
   exact h1.unique k1 (fun c hc => (h5 c hc).trans (k5 c hc).symm)
theorem Scl.self {a : List Tm} {x : Rat} (hf : Fm a) (hu : Unt a) : Scl a x a x := ⟨hf, hu, 1, by decide +kernel, fun _ => rfl, fun c _ => by rw [Rat.one_mul], by rw [Rat.one_mul]⟩
theorem Scl.again {a b b' : List Tm} {x y y' : Rat} (h : Scl a x b y) (k : Scl b y b' y') : b' = b ∧ y' = y := k.unique (Scl.self h.1 h.2.1)
theorem Scl.kpt {a b : List Tm} {x y : Rat} (h : Scl a x b y) {n : Nat} {X : Int → Rat} (hx : ∀ c, c < 0 ∨ (n : Int) ≤ c → X c = 0) (s : Int) : Kpt s (dt b X) y ↔ Kpt s (dt a X) x := by
 obtain ⟨h1, h2, q, h3, h4, h5, rfl⟩ := h
 have q0 : q ≠ 0 := by grind
 have qq : q * q⁻¹ = 1 := Rat.mul_inv_cancel q q0
 have qi : 0 < q⁻¹ := by
  refine Rat.not_le.1 fun h => ?_
  have := Rat.mul_le_mul_of_nonneg_left h (Rat.le_of_lt h3)
  rw [qq, Rat.mul_zero] at this
  exact absurd this (by decide +kernel)
 have e : dt b X = q * dt a X := by
  rw [dt_sum b n X hx, dt_sum a n X hx, ← sm_mul]
  refine sm_congr (fun i _ => ?_)
  rw [gt, gt, if_pos (by omega), if_pos (by omega), h5 _ (by omega)]
  grind
 rw [e]
 have back : ∀ z : Rat, q⁻¹ * (q * z) = z := fun z => by
  have : q⁻¹ * (q * z) = z * (q * q⁻¹) := by grind
  rw [this, qq, Rat.mul_one]
 constructor
 ·rintro (⟨hs, h⟩ | ⟨hs, h⟩ | ⟨hs, h⟩)
  ·exact .inl ⟨hs, by have := mul_le h qi; rwa [back, back] at this⟩
  ·exact .inr (.inl ⟨hs, by have := mul_le h qi; rwa [back, back] at this⟩)
  ·exact .inr (.inr ⟨hs, by have := congrArg (q⁻¹ * ·) h; simpa only [back] using this⟩)
 ·rintro (⟨hs, h⟩ | ⟨hs, h⟩ | ⟨hs, h⟩)
  ·exact .inl ⟨hs, mul_le h h3⟩
  ·exact .inr (.inl ⟨hs, mul_le h h3⟩)
  ·exact .inr (.inr ⟨hs, by rw [h]⟩)
def rdist (t : Rat) : Rat := if t < 0 then -t else t
theorem rdist_pos {t : Rat} (h : t ≠ 0) : 0 < rdist t := by
 unfold rdist
 split <;> grind
theorem Scl.mk {a f b : List Tm} {x y q t0 : Rat} {c0 : Int} {r0 : List Tm} (hf : Fm f) (ha : Alk f a) (e : f = (c0, t0) :: r0) (hq : q * rdist t0 = 1) (hb : Fm b) (hs : ∀ c, 0 ≤ c → gsum b c = q * gsum f c) (hy : y = q * x) : Scl a x b y ∧ b ≠ [] := by
 have ht0 : t0 ≠ 0 := by subst e; exact (hf.2 _ (List.mem_cons_self)).2
 have hd := rdist_pos ht0
 have q0 : q ≠ 0 := by
  rintro rfl
  rw [Rat.zero_mul] at hq
  exact absurd hq (by decide +kernel)
 have qp : 0 < q := by
  refine Rat.not_le.1 fun h => ?_
  have := Rat.mul_le_mul_of_nonneg_left h (Rat.le_of_lt hd)
  rw [Rat.mul_comm, hq, Rat.mul_zero] at this
  exact absurd this (by decide +kernel)
 have e1 : b = gmul q f := hb.unique (fm_gmul q0 hf) (fun c hc => by rw [gsum_mul]; exact hs c hc)
 have hne : b ≠ [] := by
  rw [e1, e]
  simp [gmul]
 refine ⟨⟨hb, .inr ⟨c0, q * t0, gmul q r0, by rw [e1, e]; rfl, ?_⟩, q, qp, fun h => absurd h hne, fun c hc => (hs c hc).trans (by rw [ha c hc]), hy⟩, hne⟩
 unfold rdist at hq
 split at hq
 ·right; grind
 ·left; exact hq
theorem Scl.mk0 {a f : List Tm} {x y : Rat} (hf : Fm f) (ha : Alk f a) (e : f = []) (hy : y = x) : Scl a x f y := by
 subst e
 exact ⟨hf, .inl rfl, 1, by decide +kernel, fun _ => rfl, fun c hc => by rw [Rat.one_mul]; exact ha c hc, by rw [hy, Rat.one_mul]⟩
abbrev Ct := Int × List Tm × Rat
def Dc (a b : Ct) : Prop := Domi a.1 a.2.1 a.2.2 b.1 b.2.1 b.2.2
def Put (l : List Ct) (c : Ct) (b : Bool) (l' : List Ct) : Prop :=
 (b = false ∧ l' = l ∧ (¬ IsS c.1 ∨ c.2.1 = [] ∨ ∃ k ∈ l, k.2.1 = c.2.1 ∧ Dc k c)) ∨
 (b = true ∧ IsS c.1 ∧ c.2.1 ≠ [] ∧ (∀ k ∈ l, k.2.1 = c.2.1 → ¬ Dc k c) ∧
  ((l' = l ++ [c] ∧ ∀ k ∈ l, ¬ (k.1 = c.1 ∧ k.2.1 = c.2.1)) ∨ ∃ i k, l[i]? = some k ∧ k.1 = c.1 ∧ k.2.1 = c.2.1 ∧ l' = l.set i c))
theorem put_first {c : Ct} {b : Bool} {l' : List Ct} (h : Put [] c b l') (h1 : IsS c.1) (h2 : c.2.1 ≠ []) : b = true ∧ l' = [c] := by
 rcases h with ⟨_, _, h | h | ⟨k, hk, _⟩⟩ | ⟨hb, _, _, _, ⟨rfl, _⟩ | ⟨i, k, hi, _⟩⟩
 ·exact absurd h1 h
 ·exact absurd h h2
 ·cases hk
 ·exact ⟨hb, rfl⟩
 ·simp at hi
theorem put_dom {a c : Ct} {b : Bool} {l' : List Ct} (h : Put [a] c b l') (h1 : a.2.1 = c.2.1) (h2 : Dc a c) : b = false ∧ l' = [a] := by
 rcases h with ⟨hb, e, _⟩ | ⟨_, _, _, h, _⟩
 ·exact ⟨hb, e⟩
 ·exact absurd h2 (h a (by simp) h1)
theorem put_rep {a c : Ct} {b : Bool} {l' : List Ct} (h : Put [a] c b l') (h0 : a.1 = c.1) (h1 : a.2.1 = c.2.1) (h2 : ¬ Dc a c) (h3 : IsS c.1) (h4 : c.2.1 ≠ []) : b = true ∧ l' = [c] := by
 rcases h with ⟨_, _, h | h | ⟨k, hk, _, h⟩⟩ | ⟨hb, _, _, _, ⟨_, h⟩ | ⟨i, k, hi, _, _, rfl⟩⟩
 ·exact absurd h3 h
 ·exact absurd h h4
 ·simp at hk
  subst hk
  exact absurd h h2
 ·exact absurd ⟨h0, h1⟩ (h a (by simp))
 ·match i, hi with
  | 0, hi => exact ⟨hb, rfl⟩
  | i + 1, hi => simp at hi
def ctv (r : Rat) : Ct := (1, [((0 : Int), (1 : Rat)), ((1 : Int), (2 : Rat))], r)
theorem fm_ctv : Fm [((0 : Int), (1 : Rat)), ((1 : Int), (2 : Rat))] := ⟨by simp, by simp⟩
theorem scl_ctv {p q : Rat} (hq : 0 < q) {x y : Rat} {a : List Tm} (ha : a = [((0 : Int), p), ((1 : Int), p * 2)]) (hp : q * p = 1) (hy : y = q * x) {b : List Tm} {z : Rat} (h : Scl a x b z) : b = (ctv y).2.1 ∧ z = y := by
 refine h.unique ⟨fm_ctv, .inr ⟨0, 1, _, rfl, .inl rfl⟩, q, hq, (fun e => (by cases e)), (fun c hc => ?_), hy⟩
 subst ha
 show gsum [((0 : Int), (1 : Rat)), ((1 : Int), (2 : Rat))] c = _
 simp only [gsum]
 split <;> split <;> grind
theorem dc_ctv {r r' : Rat} : Dc (ctv r) (ctv r') ↔ r ≤ r' := by
 constructor
 ·rintro ⟨_, _, ⟨_, h, _⟩ | ⟨h, _⟩ | ⟨_, h, _⟩⟩
  ·have := h 0 (by omega)
   exact absurd this (by show ¬ ((1 : Rat) + (0 + 0) = 0); decide +kernel)
  ·have := h 0 (by omega)
   exact absurd this (by show ¬ ((1 : Rat) + (0 + 0) = 0); decide +kernel)
  ·rcases h with ⟨_, h⟩ | ⟨h, _⟩ | ⟨h, _⟩
   ·exact h
   ·exact absurd (show (1 : Int) = 2 from h) (by decide)
   ·exact absurd (show (1 : Int) = 3 from h) (by decide)
 ·intro h
  exact ⟨.inl rfl, .inl rfl, .inr (.inr ⟨.inl rfl, .inl ⟨rfl, h⟩, Alk.refl _⟩)⟩
end Go.Proofs.YtofmhfbbedalbaaGreat.Num
