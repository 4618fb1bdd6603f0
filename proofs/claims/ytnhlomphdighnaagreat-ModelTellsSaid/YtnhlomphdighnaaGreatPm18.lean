
/-
 The same words, the same constraints. Plain mathematics.
-/
import Derived.Test.YtnhlomphdighnaaGreatPm12
import Derived.Test.YtnhlomphdighnaaGreatBundleT


namespace Go.Proofs.YtnhlomphdighnaaGreat
open Go.RowKit Go.Proofs.YtnhlomphdighnaaGreat.Num
set_option linter.unusedVariables false
set_option linter.unusedSimpArgs false
set_option maxRecDepth 100000
theorem crow_w {W W' : World} {r q : Wx} {t : Wt} {L M : Nat} (h : Ww W r t L) (k : Ww W' q t M) (n : Nat) : crow n r = crow n q := by
 have e1 : r.a = q.a := h.1.2.1.trans k.1.2.1.symm
 have e2 : r.b = q.b := h.1.2.2.trans k.1.2.2.symm
 have e3 : r.lo.r = q.lo.r := h.2.1.2.1.trans k.2.1.2.1.symm
 have e4 : r.hi.r = q.hi.r := h.2.2.1.2.1.trans k.2.2.1.2.1.symm
 have e5 : tms r.d = tms q.d := Tl.tms h.2.2.2 k.2.2.2
 have e6 : grow n r = grow n q := by funext c; unfold grow; rw [e5]
 unfold crow
 rw [e1, e2, e3, e4, e6]
theorem cvar_w {W W' : World} {r q : Ux} {t : Ut} {L M : Nat} (h : Uw W r t L) (k : Uw W' q t M) (i : Nat) : cvar i r = cvar i q := by
 have e1 : r.a = q.a := h.1.2.2.1.trans k.1.2.2.1.symm
 have e2 : r.b = q.b := h.1.2.2.2.trans k.1.2.2.2.symm
 have e3 : r.lo.r = q.lo.r := h.2.1.2.1.trans k.2.1.2.1.symm
 have e4 : r.hi.r = q.hi.r := h.2.2.1.2.1.trans k.2.2.1.2.1.symm
 unfold cvar
 rw [e1, e2, e3, e4]
theorem crows_w {W W' : World} {u v : Value} {d f : List Wx} {ts : List Wt} {L M : Nat} (h : Wwl W u d ts L) (k : Wwl W' v f ts M) (n : Nat) : ∀ j, j ≤ d.length → crows n d j = crows n f j
 | 0, _ => rfl
 | j + 1, hj => by
  obtain ⟨x, hx⟩ := len_of (d := d) (k := j) (by omega)
  obtain ⟨y, hy⟩ := len_of (d := f) (k := j) (by have := h.2.1; have := k.2.1; omega)
  obtain ⟨t, ht⟩ := zs_at h.2.1 hx
  rw [crows_next hx, crows_next hy, crows_w h k n j (by omega), crow_w (h.2.2 j x t hx ht) (k.2.2 j y t hy ht)]
theorem cvars_w {W W' : World} {u v : Value} {d f : List Ux} {ts : List Ut} {L M : Nat} (h : Uwl W u d ts L) (k : Uwl W' v f ts M) : ∀ j, j ≤ d.length → cvars d j = cvars f j
 | 0, _ => rfl
 | j + 1, hj => by
  obtain ⟨x, hx⟩ := len_of (d := d) (k := j) (by omega)
  obtain ⟨y, hy⟩ := len_of (d := f) (k := j) (by have := h.2.1; have := k.2.1; omega)
  obtain ⟨t, ht⟩ := zs_at h.2.1 hx
  rw [cvars_next hx, cvars_next hy, cvars_w h k j (by omega), cvar_w (h.2.2 j x t hx ht) (k.2.2 j y t hy ht)]
theorem cprob_w {W W' : World} {p q : Px} {ts : List Wt} {us : List Ut} {L M : Nat} (hp : Wwl W (sv p.R) p.rows ts L) (hu : Uwl W (sv p.V) p.vars us L) (hq : Wwl W' (sv q.R) q.rows ts M) (hv : Uwl W' (sv q.V) q.vars us M) : cprob p = cprob q := by
 have e1 : p.rows.length = q.rows.length := hp.2.1.trans hq.2.1.symm
 have e2 : p.vars.length = q.vars.length := hu.2.1.trans hv.2.1.symm
 unfold cprob
 rw [crows_w hp hq _ _ (Nat.le_refl _), cvars_w hu hv _ (Nat.le_refl _), e1, e2]
theorem xco_w {W W' : World} {u v : Value} {d f : List Ux} {ts : List Ut} {L M : Nat} (h : Uwl W u d ts L) (k : Uwl W' v f ts M) (c : Int) : xf (d.map (·.co)) c = xf (f.map (·.co)) c := by
 by_cases hc : c < 0 ∨ (d.length : Int) ≤ c
 ·rw [xf_out _ _ (by rw [List.length_map]; exact hc), xf_out _ _ (by rw [List.length_map]; have := h.2.1; have := k.2.1; omega)]
 ·obtain ⟨j, rfl⟩ := Int.eq_ofNat_of_zero_le (show 0 ≤ c by omega)
  obtain ⟨x, hx⟩ := len_of (d := d) (k := j) (by omega)
  obtain ⟨y, hy⟩ := len_of (d := f) (k := j) (by have := h.2.1; have := k.2.1; omega)
  obtain ⟨t, ht⟩ := zs_at h.2.1 hx
  rw [xf_in (x := x.co) (by rw [List.getElem?_map, hx]; rfl), xf_in (x := y.co) (by rw [List.getElem?_map, hy]; rfl)]
  exact (h.2.2 j x t hx ht).2.2.2.2.1.trans (k.2.2 j y t hy ht).2.2.2.2.1.symm
theorem whl_w {W W' : World} {u v : Value} {d f : List Ux} {ts : List Ut} {L M : Nat} (h : Uwl W u d ts L) (k : Uwl W' v f ts M) : d.map (·.w) = f.map (·.w) := by
 apply List.ext_getElem?
 intro j
 rw [List.getElem?_map, List.getElem?_map]
 by_cases hj : j < d.length
 ·obtain ⟨x, hx⟩ := len_of (d := d) (k := j) hj
  obtain ⟨y, hy⟩ := len_of (d := f) (k := j) (by have := h.2.1; have := k.2.1; omega)
  obtain ⟨t, ht⟩ := zs_at h.2.1 hx
  rw [hx, hy]
  simp only [Option.map_some]
  rw [(h.2.2 j x t hx ht).1.2.1, (k.2.2 j y t hy ht).1.2.1]
 ·rw [List.getElem?_eq_none (by omega), List.getElem?_eq_none (by have := h.2.1; have := k.2.1; omega)]
end Go.Proofs.YtnhlomphdighnaaGreat
