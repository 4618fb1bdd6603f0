
/-
  nat.leap: far, apply.
-/
import Derived.Test.YtpfeacdhplbblaaGreatLess
import Derived.Test.YtpfeacdhplbblaaGreatBundleA
import Derived.Deep.RegionHeld3


namespace Go.Proofs.YtpfeacdhplbblaaGreat
open Go.RowKit Go.Proofs.YtpfeacdhplbblaaGreat.Num
set_option linter.unusedVariables false
set_option maxRecDepth 100000
abbrev lv (odd : Bool) (p0 p1 q0 q1 : Nat) : Value := .agg #[.bool odd, .int .u64 (p0 : Int), .int .u64 (p1 : Int), .int .u64 (q0 : Int), .int .u64 (q1 : Int)]
abbrev lblk (odd : Bool) (p0 p1 q0 q1 : Nat) : Obj := .cells #[.bool odd, .int .u64 (p0 : Int), .int .u64 (p1 : Int), .int .u64 (q0 : Int), .int .u64 (q1 : Int)] 142
theorem less_n {w : World} {u v : Value} {x y L M p q Z : Nat} (hu : Nw w u x L) (hv : Nw w v y M) (hL : L ≤ 17592186044416) (hM : M ≤ 17592186044416) (hp : p < Q) (hq : q < Q) (hd : p * x = q * y + Z) (hZ : Z ≤ x ∨ Z ≤ y) :
    Calls Tryz.prog 119 #[.int .u64 (p : Int), u, .int .u64 (q : Int), v] w (fun e w' => ∃ r, e = .returned r ∧ Own .u64 62 w' w.heap.size r (cn Q Z) ∧ Below w.heap.size w w') := by
  obtain ⟨A, n, c, xs, rfl, hx, dx, _, _, rfl, hn⟩ := hu
  obtain ⟨D, m, d, ys, rfl, hy, dy, _, _, rfl, hm⟩ := hv
  refine less_any A D n c m d p q Z xs ys w hx hy dx dy (by omega) (by omega) hp hq hd ?_
  have h1 := vl_lt dx
  have h2 := vl_lt dy
  rw [hx.1] at h1
  rw [hy.1] at h2
  have h3 : Q ^ n ≤ Q ^ max n m := Nat.pow_le_pow_right Q_pos (by omega)
  have h4 : Q ^ m ≤ Q ^ max n m := Nat.pow_le_pow_right Q_pos (by omega)
  omega
theorem far_any (odd : Bool) (p0 p1 q0 q1 : Nat) (w : World) :
    Calls Tryz.prog 107 #[lv odd p0 p1 q0 q1] w fun e w' => e = .returned (.bool (decide (p1 ≠ 0))) ∧ Below w.heap.size w w' := by
  have a1 : Below w.heap.size w (w.alloc (lblk odd p0 p1 q0 q1)) := (Below.refl _ _).alloc (Nat.le_refl _) _
  by_cases h : p1 = 0
  · subst h
    go_enter Tryz.func107, Tryz.ntmps107
    go_wp2_with fail
    go_ret
    exact ⟨rfl, a1⟩
  · have e : decide (p1 ≠ 0) = true := decide_eq_true h
    have t1 : ((p1 : Int) != 0) = true := by rw [bne_iff_ne]; omega
    rw [e]
    go_enter Tryz.func107, Tryz.ntmps107
    go_wp2_with fail
    go_ret
    exact ⟨rfl, a1⟩
theorem cell_kept {W w' : World} {p : Addr} {v : Value} (hc : W.cell? p = some v) (hb : Below W.heap.size W w') : w'.cell? p = some v := (hb.cell (World.block_lt_of_cell? _ _ hc)).trans hc
def ApRet (t : TypeId) (w : World) (A B : Nat) (e : Ending) (w' : World) : Prop :=
  ∃ r s, e = .returned (.tuple #[r, s]) ∧ Own .u64 t w' w.heap.size r (cn Q A) ∧ Own .u64 t w' w.heap.size s (cn Q B) ∧ (∀ g, r.ownBlock = some g → s.ownBlock ≠ some g) ∧ Below w.heap.size w w'
theorem ap_end {w W w1 w2 : World} {r s : Value} {A B : Nat} (hw : w.heap.size ≤ W.heap.size) (hb : Below w.heap.size w W) (o1 : Own .u64 62 w1 W.heap.size r (cn Q A)) (b1 : Below W.heap.size W w1) (o2 : Own .u64 62 w2 w1.heap.size s (cn Q B)) (b2 : Below w1.heap.size w1 w2) :
    ApRet 62 w A B (.returned (.tuple #[r, s])) w2 := by
  refine ⟨r, s, rfl, (o1.below b2 (Nat.le_refl _)).mono hw, o2.mono (Nat.le_trans hw b1.size), fun g h1 h2 => ?_, (hb.trans (b1.mono hw)).trans (b2.mono (Nat.le_trans hw b1.size))⟩
  rcases o1 with ⟨rfl, _⟩ | ⟨g1, _, _, rfl, _, r1, _⟩
  · simp [Value.ownBlock] at h1
  · rcases o2 with ⟨rfl, _⟩ | ⟨g2, _, _, rfl, hg2, _, _⟩
    · simp [Value.ownBlock] at h2
    · have := r1.lt
      simp [Value.ownBlock] at h1 h2
      omega
set_option maxHeartbeats 4000000 in
theorem apply_any {w : World} {u v : Value} {U V L A B p0 p1 q0 q1 : Nat} {odd : Bool} (hu : Nw w u U L) (hv : Nw w v V L) (hL : L ≤ 17592186044416) (h0 : p0 < Q) (h1 : p1 < Q) (h2 : q0 < Q) (h3 : q1 < Q)
    (hA : A ≤ U) (hB : B ≤ U) (he : odd = false → p0 * U = p1 * V + A ∧ q1 * V = q0 * U + B) (ho : odd = true → p1 * V = p0 * U + A ∧ q0 * U = q1 * V + B) :
    Calls Tryz.prog 108 #[lv odd p0 p1 q0 q1, u, v] w (ApRet 62 w A B) := by
  have a1 : Below w.heap.size w (w.alloc (lblk odd p0 p1 q0 q1)) := (Below.refl _ _).alloc (Nat.le_refl _) _
  have a2 : Below w.heap.size w (w.alloc (lblk odd p0 p1 q0 q1)).drew := below_drewN a1 1
  have c0 : (w.alloc (lblk odd p0 p1 q0 q1)).drew.cell? ⟨w.heap.size, 0, none⟩ = some (.bool odd) := by go_simp
  have c1 : (w.alloc (lblk odd p0 p1 q0 q1)).drew.cell? ⟨w.heap.size, 1, none⟩ = some (.int .u64 (p0 : Int)) := by go_simp
  have c2 : (w.alloc (lblk odd p0 p1 q0 q1)).drew.cell? ⟨w.heap.size, 2, none⟩ = some (.int .u64 (p1 : Int)) := by go_simp
  have c3 : (w.alloc (lblk odd p0 p1 q0 q1)).drew.cell? ⟨w.heap.size, 3, none⟩ = some (.int .u64 (q0 : Int)) := by go_simp
  have c4 : (w.alloc (lblk odd p0 p1 q0 q1)).drew.cell? ⟨w.heap.size, 4, none⟩ = some (.int .u64 (q1 : Int)) := by go_simp
  obtain ⟨Au, nu, cu, rfl⟩ : ∃ a n c, u = .slice a n c := by obtain ⟨a, n, c, _, e, _⟩ := hu; exact ⟨a, n, c, e⟩
  obtain ⟨Av, nv, cv, rfl⟩ : ∃ a n c, v = .slice a n c := by obtain ⟨a, n, c, _, e, _⟩ := hv; exact ⟨a, n, c, e⟩
  have HU := hide (hu.step a2)
  have HV := hide (hv.step a2)
  have HA := hide a2
  clear hu hv a1 a2
  cases odd
  · obtain ⟨e1, e2⟩ := he rfl
    have C1 : Hid (Calls Tryz.prog 119 #[.int .u64 (p0 : Int), .slice Au nu cu, .int .u64 (p1 : Int), .slice Av nv cv] (w.alloc (lblk false p0 p1 q0 q1)).drew _) := hide (less_n HU.out HV.out hL hL h0 h1 e1 (.inl hA))
    have C2 : Hid (∀ w1, Below (w.alloc (lblk false p0 p1 q0 q1)).drew.heap.size (w.alloc (lblk false p0 p1 q0 q1)).drew w1 → Calls Tryz.prog 119 #[.int .u64 (q1 : Int), .slice Av nv cv, .int .u64 (q0 : Int), .slice Au nu cu] w1 _) := hide (fun w1 b => less_n (HV.out.step b) (HU.out.step b) hL hL h3 h2 e2 (.inr hB))
    clear he ho e1 e2 HU HV hA hB h0 h1 h2 h3
    go_enter Tryz.func108, Tryz.ntmps108
    go_wp2_with fail
    go_region_held3 (fun W => W.cell? ⟨w.heap.size, 1, none⟩ = some (.int .u64 (p0 : Int)) ∧ W.cell? ⟨w.heap.size, 2, none⟩ = some (.int .u64 (p1 : Int)) ∧ W.cell? ⟨w.heap.size, 3, none⟩ = some (.int .u64 (q0 : Int)) ∧ W.cell? ⟨w.heap.size, 4, none⟩ = some (.int .u64 (q1 : Int)))
      (first | with_reducible exact ⟨c1, c2, c3, c4⟩ | (refine ⟨?_, ?_, ?_, ?_⟩ <;> (repeat (first | (with_reducible assumption) | (with_reducible refine cell_kept ?_ (by with_reducible assumption))))))
      (first
        | (go_at_call 119; (with_reducible refine C1.out.mono ?_); rintro e w1 ⟨r1, rfl, o1, b1⟩)
        | (go_at_call 119; (with_reducible refine (C2.out _ b1).mono ?_); rintro e w2 ⟨r2, rfl, o2, b2⟩))
    go_wp2_with fail
    go_ret2
    exact ap_end HA.out.size HA.out o1 b1 o2 b2
  · obtain ⟨e1, e2⟩ := ho rfl
    have C1 : Hid (Calls Tryz.prog 119 #[.int .u64 (p1 : Int), .slice Av nv cv, .int .u64 (p0 : Int), .slice Au nu cu] (w.alloc (lblk true p0 p1 q0 q1)).drew _) := hide (less_n HV.out HU.out hL hL h1 h0 e1 (.inr hA))
    have C2 : Hid (∀ w1, Below (w.alloc (lblk true p0 p1 q0 q1)).drew.heap.size (w.alloc (lblk true p0 p1 q0 q1)).drew w1 → Calls Tryz.prog 119 #[.int .u64 (q0 : Int), .slice Au nu cu, .int .u64 (q1 : Int), .slice Av nv cv] w1 _) := hide (fun w1 b => less_n (HU.out.step b) (HV.out.step b) hL hL h2 h3 e2 (.inl hB))
    clear he ho e1 e2 HU HV hA hB h0 h1 h2 h3
    go_enter Tryz.func108, Tryz.ntmps108
    go_wp2_with fail
    go_region_held3 (fun W => W.cell? ⟨w.heap.size, 1, none⟩ = some (.int .u64 (p0 : Int)) ∧ W.cell? ⟨w.heap.size, 2, none⟩ = some (.int .u64 (p1 : Int)) ∧ W.cell? ⟨w.heap.size, 3, none⟩ = some (.int .u64 (q0 : Int)) ∧ W.cell? ⟨w.heap.size, 4, none⟩ = some (.int .u64 (q1 : Int)))
      (first | with_reducible exact ⟨c1, c2, c3, c4⟩ | (refine ⟨?_, ?_, ?_, ?_⟩ <;> (repeat (first | (with_reducible assumption) | (with_reducible refine cell_kept ?_ (by with_reducible assumption))))))
      (first
        | (go_at_call 119; (with_reducible refine C1.out.mono ?_); rintro e w1 ⟨r1, rfl, o1, b1⟩)
        | (go_at_call 119; (with_reducible refine (C2.out _ b1).mono ?_); rintro e w2 ⟨r2, rfl, o2, b2⟩))
    go_wp2_with fail
    go_ret2
    exact ap_end HA.out.size HA.out o1 b1 o2 b2
end Go.Proofs.YtpfeacdhplbblaaGreat
