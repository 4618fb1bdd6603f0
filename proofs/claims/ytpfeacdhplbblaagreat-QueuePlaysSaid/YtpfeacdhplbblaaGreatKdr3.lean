
/-
  Regions that draw their order and store, at their end, into cells that they read: what is held is held until the first of these stores.
-/
import Derived.Test.YtpfeacdhplbblaaGreatKdrw

namespace Go.Proofs.YtpfeacdhplbblaaGreat
open Go.RowKit
set_option linter.unusedVariables false
section
variable {P : Program} {md : Region.Mode} {ops : Array Oper} {Q : Exit → Act → World → Prop} {S : World → Prop} {k : Nat}
def Till (P : Program) (md : Region.Mode) (ops : Array Oper) (Q : Exit → Act → World → Prop) (S : World → Prop) (k : Nat) : Nat → Array Bool → Act → World → Prop
  | 0, L, a, w => Region.ready md ops L = [] ∧ Q .normal a w
  | n + 1, L, a, w => (Region.ready md ops L = [] → Q .normal a w) ∧ ∀ i ∈ Region.ready md ops L,
      wpOp P ops Q i (fun a' w' => ((L.setIfInBounds i true).getD k true = false → S w') ∧ Till P md ops Q S k n (L.setIfInBounds i true) a' w') a w
theorem Till.any : ∀ (n : Nat) (L : Array Bool) (a : Act) (w : World), Till P md ops Q S k n L a w → wpAny P md ops Q n L a w
  | 0, _, _, _, h => h
  | n + 1, _, _, _, h => ⟨h.1, fun i hi => wpOp_mono (fun a' w' h' => Till.any n _ a' w' h'.2) (h.2 i hi)⟩
theorem waits {L : Array Bool} {i : Nat} (hk : ∃ ok, ops[k]? = some ok ∧ ∃ e ∈ ok.after, Region.binds md e = true ∧ e.on = i) (hi : L.getD i true = false) : ¬ k ∈ Region.ready md ops L := by
  intro h
  obtain ⟨ok, h1, e, h2, h3, h4⟩ := hk
  obtain ⟨-, o, h5, h6⟩ := mem_ready.1 h
  rw [h1] at h5
  injection h5 with h5
  subst h5
  have h7 := h6 e h2 h3
  rw [h4] at h7
  rcases Nat.lt_or_ge i L.size with h8 | h8
  · simp [h8] at hi h7; rw [hi] at h7; cases h7
  · simp [Array.getElem?_eq_none h8] at h7
theorem Till.first {i : Nat} {oi : Oper} {v : Value} (hi : ops[i]? = some oi) (hsel : ∀ (j : Nat) (o : Oper) cs b, ops[j]? = some o → o.op ≠ .select cs b)
    (hQ : ∀ c a w, Q (.panic c) (a.put oi.dst v) w → Q (.panic c) a w) (hk : ∃ ok, ops[k]? = some ok ∧ ∃ e ∈ ok.after, Region.binds md e = true ∧ e.on = i) :
    ∀ (n : Nat) (L : Array Bool) (a : Act) (w : World),
      (∀ j oj, ops[j]? = some oj → j ≠ i → L.getD j true = false → (∀ e ∈ oj.after, Region.binds md e = true → e.on ≠ i) → oi.apart ops oj = true) →
      i ∈ Region.ready md ops L → L.getD k true = false → YieldsIf P ops S oi v a → S w →
      Till P md ops Q S k n (L.setIfInBounds i true) (a.put oi.dst v) w → Till P md ops Q S k (n + 1) L a w := by
  intro n
  induction n with
  | zero =>
    intro L a w _ hr _ hy hS H
    refine ⟨fun h => (by rw [h] at hr; cases hr), fun j hj => ?_⟩
    by_cases e : j = i
    · subst e
      exact hy.wpOp hi hS ⟨fun _ => hS, H⟩
    · have h := ready_mono hj e
      rw [H.1] at h
      cases h
  | succ n ih =>
    intro L a w hf hr hl hy hS H
    refine ⟨fun h => (by rw [h] at hr; cases hr), fun j hj => ?_⟩
    by_cases e : j = i
    · subst e
      exact hy.wpOp hi hS ⟨fun _ => hS, H⟩
    have hun := (mem_ready.1 hr).1
    have hki : k ≠ i := fun e => waits hk hun (e ▸ hr)
    have hkj : j ≠ k := fun e => waits hk hun (e ▸ hj)
    obtain ⟨hju, oj, hoj, hall⟩ := mem_ready.1 hj
    have hnot : ∀ x ∈ oj.after, Region.binds md x = true → x.on ≠ i := fun x hx hb hq => by
      have h1 := hall x hx hb
      rw [hq] at h1
      rcases Nat.lt_or_ge i L.size with h8 | h8
      · simp [h8] at hun h1; rw [hun] at h1; cases h1
      · simp [Array.getElem?_eq_none h8] at h1
    have hlj : (L.setIfInBounds j true).getD k true = false := by rw [getD_set_ne true hkj]; exact hl
    refine wpOp_mono (fun a' w' h3 => ?_) (wpOp_putIf hoj (hf j oj hoj e hju hnot) (fun cs b => hsel i oi cs b hi) (fun cs b => hsel j oj cs b hoj) hQ hy (H.2 j (ready_mono hj e)))
    have hs' : S w' := h3.2.1 (by rw [getD_set_ne true hkj, getD_set_ne true (Ne.symm hki)]; exact hl)
    refine ⟨fun _ => hs', ih _ a' w' (fun m om hm hmi hmu hno => hf m om hm hmi ?_ hno) (ready_mono hr (Ne.symm e)) hlj h3.1 hs' ?_⟩
    · by_cases hjm : j = m
      · subst hjm; exact hju
      · rw [getD_set_ne true hjm] at hmu; exact hmu
    · rw [Array.setIfInBounds_comm _ _ e]
      exact h3.2.2
def waitsB (md : Region.Mode) (ops : Array Oper) (k i : Nat) : Bool := match ops[k]? with | some o => o.after.toList.any fun e => Region.binds md e && e.on == i | none => false
theorem waitsB_spec {i : Nat} (h : waitsB md ops k i = true) : ∃ ok, ops[k]? = some ok ∧ ∃ e ∈ ok.after, Region.binds md e = true ∧ e.on = i := by
  unfold waitsB at h
  cases hk : ops[k]? with
  | none => rw [hk] at h; cases h
  | some o =>
    rw [hk] at h
    obtain ⟨e, h1, h2⟩ := List.any_eq_true.1 h
    refine ⟨o, rfl, e, by simpa using h1, ?_⟩
    simpa using h2
theorem tkT (i : Nat) {oi : Oper} {v : Value} {fuel : Nat} {listed : Array Bool} {a : Act} {w : World} (hS : S w) (hrun : ∀ w, S w → (execOp a.eval oi).run P w = .ok (.value v) w)
    (h : Till P md ops Q S k fuel (listed.setIfInBounds i true) (a.put oi.dst v) w)
    (hi : ops[i]? = some oi := by rfl) (hs : Region.noSelect ops = true := by kernel_rfl) (hf : Region.free md ops listed i = true := by kernel_rfl) (hr : (Region.ready md ops listed).contains i = true := by kernel_rfl)
    (hk : waitsB md ops k i = true := by kernel_rfl) (hl : listed.getD k true = false := by kernel_rfl)
    (hw : Region.wanted oi (yielded ops a.tmps) = true := by rfl) (hQ : ∀ c a w, Q (.panic c) (a.put oi.dst v) w → Q (.panic c) a w := by exact fun _ _ _ h => h) :
    Till P md ops Q S k (fuel + 1) listed a w := Till.first hi (Region.noSelect_spec hs) hQ (waitsB_spec hk) fuel listed a w (Region.free_spec hi hf) (by simpa using hr) hl (.inl ⟨hw, hrun⟩) hS h
theorem tpT (i : Nat) {oi : Oper} {v : Value} {fuel : Nat} {listed : Array Bool} {a : Act} {w : World} (hS : S w)
    (h : Till P md ops Q S k fuel (listed.setIfInBounds i true) (a.put oi.dst v) w)
    (hi : ops[i]? = some oi := by rfl) (hs : Region.noSelect ops = true := by kernel_rfl) (hf : Region.free md ops listed i = true := by kernel_rfl) (hr : (Region.ready md ops listed).contains i = true := by kernel_rfl)
    (hk : waitsB md ops k i = true := by kernel_rfl) (hl : listed.getD k true = false := by kernel_rfl)
    (hw : Region.wanted oi (yielded ops a.tmps) = true := by rfl) (hrun : ∀ w, (execOp a.eval oi).run P w = .ok (.value v) w := by intro w; rfl) (hQ : ∀ c a w, Q (.panic c) (a.put oi.dst v) w → Q (.panic c) a w := by exact fun _ _ _ h => h) :
    Till P md ops Q S k (fuel + 1) listed a w := tkT i hS (fun w _ => hrun w) h hi hs hf hr hk hl hw hQ
abbrev NxtT (P : Program) (md : Region.Mode) (ops : Array Oper) (Q : Exit → Act → World → Prop) (S : World → Prop) (k fuel : Nat) (listed : Array Bool) (a : Act) (w : World) (i : Nat) (o : Oper) : Prop :=
  ∀ K' : Act → World → Prop, Shut (∀ a w, S w → (S w → Till P md ops Q S k fuel (listed.setIfInBounds i true) a w) → K' a w) → if Region.wanted o (yielded ops a.tmps) = true then Oper.wp P o a w K' Q else K' (a.put o.dst undef) w
theorem NxtT.op {fuel : Nat} {listed : Array Bool} {a : Act} {w : World} {i : Nat} {o : Oper} (ho : ops[i]? = some o) (h : NxtT P md ops Q S k fuel listed a w i o) :
    wpOp P ops Q i (fun a' w' => ((listed.setIfInBounds i true).getD k true = false → S w') ∧ Till P md ops Q S k fuel (listed.setIfInBounds i true) a' w') a w :=
  wpOp_step ho (fun K' hK => h K' (fun a w hS hW => hK a w ⟨fun _ => hS, hW hS⟩))
theorem r1T (i : Nat) {o : Oper} {fuel : Nat} {listed : Array Bool} {a : Act} {w : World} (h : NxtT P md ops Q S k fuel listed a w i o) (hr : Region.ready md ops listed = [i] := by kernel_rfl) (ho : ops[i]? = some o := by rfl) : Till P md ops Q S k (fuel + 1) listed a w :=
  ⟨fun h0 => (by rw [hr] at h0; cases h0), fun j hj => by rw [hr] at hj; simp at hj; subst hj; exact h.op ho⟩
theorem r1S (i : Nat) {o : Oper} {fuel : Nat} {listed : Array Bool} {a : Act} {w : World} (h : ∀ K' : Act → World → Prop, Shut (∀ a w, (Till P md ops Q S k fuel (listed.setIfInBounds i true) a w) → K' a w) → if Region.wanted o (yielded ops a.tmps) = true then Oper.wp P o a w K' Q else K' (a.put o.dst undef) w)
    (hl : (listed.setIfInBounds i true).getD k true = true := by kernel_rfl) (hr : Region.ready md ops listed = [i] := by kernel_rfl) (ho : ops[i]? = some o := by rfl) : Till P md ops Q S k (fuel + 1) listed a w :=
  ⟨fun h0 => (by rw [hr] at h0; cases h0), fun j hj => by
    rw [hr] at hj
    simp at hj
    subst hj
    exact wpOp_step ho (fun K' hK => h K' (fun a w hW => hK a w ⟨fun h0 => (by rw [hl] at h0; cases h0), hW⟩))⟩
theorem Till.done {listed : Array Bool} {a : Act} {w : World} (hr : Region.ready md ops listed = []) (h : Q .normal a w) : ∀ fuel, Till P md ops Q S k fuel listed a w
  | 0 => ⟨hr, h⟩
  | _ + 1 => ⟨fun _ => h, by rw [hr]; simp⟩
theorem wp_till {id : Nat} {a : Act} {w : World} (k : Nat) (hm : P.follows .mixedOrders = true) (hS : S w.drew)
    (h : S w.drew → Till P .any ops Q S k ops.size (Array.replicate ops.size false) a w.drew) : (Code.region id ops true).wp P Q a w :=
  wp_region_any hm (Till.any _ _ _ _ (h hS))
end
end Go.Proofs.YtpfeacdhplbblaaGreat
