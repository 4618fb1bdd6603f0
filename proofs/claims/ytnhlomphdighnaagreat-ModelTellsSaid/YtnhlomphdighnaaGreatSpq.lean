
/-
 Lists of terms that are written over, one behind another: what such a spoil leaves (without matrices).
-/
import Derived.Test.YtnhlomphdighnaaGreatBundleS
import Derived.Test.YtnhlomphdighnaaGreatBundleH


namespace Go.Proofs.YtnhlomphdighnaaGreat
open Go.RowKit Go.Proofs.YtnhlomphdighnaaGreat.Num
set_option linter.unusedVariables false
set_option linter.unusedSimpArgs false
set_option maxRecDepth 100000
theorem Ow.put_any {W : World} {B g n c i : Nat} {d : List Tx} (h : Ow 51 et 4 W B (.slice (some ⟨g, 0, none⟩) n c) d) (z : Int) :
  ∃ d', Ow 51 et 4 (W.setCell ⟨g, i * 4, none⟩ (.int .i64 z)) B (.slice (some ⟨g, 0, none⟩) n c) d' ∧ d'.map Tx.x = d.map Tx.x := by
 by_cases hi : i < d.length
 ·obtain ⟨y, hy⟩ := len_of (d := d) (k := i) hi
  refine ⟨_, h.put1 hy z, ?_⟩
  apply List.ext_getElem?
  intro j
  rw [List.getElem?_map, List.getElem?_map]
  by_cases e : i = j
  ·subst e
   rw [List.getElem?_set_self hi, hy]
   rfl
  ·rw [List.getElem?_set_ne e]
 ·refine ⟨d, ?_, rfl⟩
  have hn := own_len h
  subst hn
  have h1 := World.ownsRow.stored (show W.ownsRow B _ 4 _ d.length _ from h) (i * 4) (.int .i64 z)
  have h2 := h1.1
  rw [List.set_eq_of_length_le (by rw [flat_len et_len]; omega)] at h2
  exact h2
def Spn (B C : Nat) (w w' : World) : Prop := Below B w w' ∧ w.heap.size ≤ w'.heap.size ∧ (∀ B' x, Wr w B' x → Wr w' B' x) ∧ (∀ b, C ≤ b → b < w.heap.size → w'.heap[b]? = w.heap[b]?) ∧
 (∀ (g : Nat) cs T fz, T ≠ 111 → T ≠ 51 → w.heap[g]? = some (.cells cs T fz) → w'.heap[g]? = some (.cells cs T fz)) ∧
 ∀ B' v d, Ow 51 et 4 w B' v d → ∃ d', Ow 51 et 4 w' B' v d' ∧ d'.map Tx.x = d.map Tx.x
theorem Spn.refl (B C : Nat) (w : World) : Spn B C w w := ⟨Below.refl _ _, Nat.le_refl _, fun _ _ h => h, fun _ _ _ => rfl, fun _ _ _ _ _ _ h => h, fun _ _ d h => ⟨d, h, rfl⟩⟩
theorem Spn.trans {B C : Nat} {a b c : World} (h : Spn B C a b) (k : Spn B C b c) : Spn B C a c := by
 refine ⟨h.1.trans k.1, Nat.le_trans h.2.1 k.2.1, fun B' x hx => k.2.2.1 B' x (h.2.2.1 B' x hx), fun g h1 h2 => (k.2.2.2.1 g h1 (Nat.lt_of_lt_of_le h2 h.2.1)).trans (h.2.2.2.1 g h1 h2), fun g cs T fz h1 h2 h3 => k.2.2.2.2.1 g cs T fz h1 h2 (h.2.2.2.2.1 g cs T fz h1 h2 h3), fun B' v d hd => ?_⟩
 obtain ⟨d1, o1, e1⟩ := h.2.2.2.2.2 B' v d hd
 obtain ⟨d2, o2, e2⟩ := k.2.2.2.2.2 B' v d1 o1
 exact ⟨d2, o2, e2.trans e1⟩
theorem Spn.of_spu {B C : Nat} {w w' : World} (h : Spu B C w w') : Spn B C w w' :=
 ⟨h.1.1, h.1.2.1, fun B' x hx => h.1.wr hx, h.2, fun g cs T fz h1 _ h3 => (Spo.of (row := none) h.1).2.2.2 g cs T fz h1 (by simp) h3, fun B' v d hd => ⟨d, h.1.ow (by decide) hd, rfl⟩⟩
theorem Spn.ow {α : Type} {enc : α → List Value} {k B C B' : Nat} {T : TypeId} {w w' : World} {v : Value} {d : List α} (h : Spn B C w w') (hT : T ≠ 111) (hT2 : T ≠ 51) (hx : Ow T enc k w B' v d) : Ow T enc k w' B' v d := by
 obtain ⟨h1, h2⟩ := hx
 refine ⟨h1, ?_⟩
 rcases h2 with h2 | ⟨g, cap, cur, rfl, hB, hh, r⟩
 ·exact .inl h2
 ·exact .inr ⟨g, cap, cur, rfl, hB, h.2.2.2.2.1 g cur T _ hT hT2 hh, r⟩
def SpC (W : World) (B C : Nat) (v : Value) (d : List Tx) : Prop := Sp W B v d ∧ (∀ g, v.ownBlock = some g → g < C) ∧
 ∀ x ∈ d, (0 < x.x.u.2.1 → ∀ b off, x.x.u.1 = some ⟨b, off, none⟩ → b < C) ∧ (0 < x.x.t.2.1 → ∀ b off, x.x.t.1 = some ⟨b, off, none⟩ → b < C)
theorem Sp.spc {W : World} {B : Nat} {v : Value} {d : List Tx} (h : Sp W B v d) : SpC W B W.heap.size v d :=
 ⟨h, fun g hg => (h.1.lt hg).2, fun x hx => ⟨fun h0 => (h.2 x hx).1.1.lt h0, fun h0 => (h.2 x hx).2.1.lt h0⟩⟩
theorem SpC.step {W W' : World} {B C : Nat} {v : Value} {d : List Tx} (h : SpC W B C v d) (hb : Below W.heap.size W W') : SpC W' B C v d := ⟨h.1.step hb, h.2⟩
theorem SpC.spu {w w' : World} {B C B' C' : Nat} {v : Value} {d : List Tx} (h : SpC w B C v d) (k : Spu B' C' w w') : SpC w' B C v d := by
 refine ⟨h.1.spo (Spo.of (row := none) k.1) ?_, h.2⟩
 cases e : v.ownBlock with
 | none => exact .inl rfl
 | some g => exact .inr (by simp)
theorem SpC.spn {w w' : World} {B C B' C' : Nat} {v : Value} {d : List Tx} (h : SpC w B C v d) (k : Spn B' C' w w') : ∃ d', SpC w' B C v d' ∧ d'.length = d.length := by
 obtain ⟨d', ho, hm⟩ := k.2.2.2.2.2 B v d h.1.1
 have hx : ∀ x ∈ d', ∃ y ∈ d, y.x = x.x := fun x hx => by
  have h1 : x.x ∈ d'.map Tx.x := List.mem_map.2 ⟨x, hx, rfl⟩
  rw [hm] at h1
  obtain ⟨y, hy, e⟩ := List.mem_map.1 h1
  exact ⟨y, hy, e⟩
 refine ⟨d', ⟨⟨ho, fun x h1 => ?_⟩, h.2.1, fun x h1 => ?_⟩, by have := congrArg List.length hm; simpa using this⟩
 ·obtain ⟨y, hy, e⟩ := hx x h1
  rw [← e]
  exact ⟨⟨k.2.2.1 _ _ (h.1.2 y hy).1.1, (h.1.2 y hy).1.2⟩, k.2.2.1 _ _ (h.1.2 y hy).2.1, (h.1.2 y hy).2.2⟩
 ·obtain ⟨y, hy, e⟩ := hx x h1
  rw [← e]
  exact h.2.2 y hy
theorem SpC.put {W : World} {B C g n c i : Nat} {d : List Tx} {y : Tx} (h : SpC W B C (.slice (some ⟨g, 0, none⟩) n c) d) (hi : d[i]? = some y) (z : Int) :
  SpC (W.setCell ⟨g, i * 4, none⟩ (.int .i64 z)) B C (.slice (some ⟨g, 0, none⟩) n c) (d.set i ⟨z, y.x⟩) ∧ Spn B C W (W.setCell ⟨g, i * 4, none⟩ (.int .i64 z)) := by
 obtain ⟨s1, s2⟩ := h.1.put hi z
 have s3 := s2 B (Nat.le_refl _)
 have ho : W.grownBy (W.setCell ⟨g, i * 4, none⟩ (.int .i64 z)) (some g) := only_set (p := ⟨g, i * 4, none⟩) (only_refl W (some g)) rfl _
 refine ⟨⟨s1, h.2.1, fun x hx => ?_⟩, s3.1, s3.2.1, s3.2.2.1, fun b h1 h2 => Below.heap_setCell _ _ _ _ (fun e => ?_), fun q cs T fz h1 h2 h3 => s3.2.2.2 q cs T fz h1 (fun e => ?_) h3, fun B' v d' hd => ?_⟩
 ·have hm : ∃ x0 ∈ d, x0.x = x.x := by
   rcases List.mem_or_eq_of_mem_set hx with hx | rfl
   ·exact ⟨x, hx, rfl⟩
   ·exact ⟨y, List.mem_of_getElem? hi, rfl⟩
  obtain ⟨x0, h0, e⟩ := hm
  rw [← e]
  exact h.2.2 x0 h0
 ·have hC := h.2.1 g rfl
  have e : b = g := e
  omega
 ·injection e with e
  subst e
  rcases h.1.1.form with ⟨e1, _⟩ | ⟨g', cap, cur, e1, hB, hlt, hh, _⟩
  ·cases e1
  ·injection e1 with e1 e2 e3
   injection e1 with e1
   injection e1 with e1
   subst e1
   rw [hh] at h3
   injection h3 with h3
   injection h3 with _ h4
   exact h2 h4.symm
 ·rcases hd.form with ⟨rfl, rfl⟩ | ⟨g', cap, cur, rfl, -⟩
  ·exact ⟨[], Ow.nil _ _ _ _ _, rfl⟩
  ·by_cases e : g' = g
   ·subst e
    exact hd.put_any z
   ·exact ⟨d', hd.kept ho (.inr (by simp [Value.ownBlock]; exact e)), rfl⟩
set_option maxHeartbeats 8000000 in
theorem spoil_n {w : World} {B C : Nat} {v : Value} {d : List Tx} (hv : SpC w B C v d) (hB : B ≤ w.heap.size) (hn : d.length ≤ 1000000) :
  Calls Tryz.prog 15 #[v] w fun e w' => e = .returned (.tuple #[]) ∧ Spn B C w w' := by
 obtain ⟨n, hlen⟩ : ∃ n, n = d.length := ⟨_, rfl⟩
 have hvs : ∃ A c, v = .slice A n c ∧ (0 < n → ∃ g, A = some ⟨g, 0, none⟩) := by
  rcases hv.1.1.form with ⟨rfl, rfl⟩ | ⟨g, cap, cur, rfl, _⟩
  ·exact ⟨none, 0, by rw [hlen]; rfl, fun h => by simp [hlen] at h⟩
  ·exact ⟨_, cap, by rw [hlen], fun _ => ⟨g, rfl⟩⟩
 obtain ⟨A, c, rfl, hA⟩ := hvs
 have HV := hide hv
 have HN := hide hlen
 have HB := hide hB
 have HA := hide hA
 rw [← hlen] at hn
 clear hv hlen hB hA
 go_enter Tryz.func15, Tryz.ntmps15
 go_wp2_with fail
 go_loopw [2] (fun iv wr => ∃ (k : Nat) (dk : List Tx), k ≤ n ∧ iv = .int .i64 (k : Int) ∧ Hid (dk.length = n) ∧ Hid (SpC wr B C (.slice A n c) dk) ∧ Hid (Spn B C w wr)) (fun iv _ => n - (intOf iv).toNat)
 case atStart => exact ⟨0, d, Nat.zero_le _, rfl, hide HN.out.symm, HV, hide (Spn.refl _ _ _)⟩
 case round =>
  obtain ⟨k, dk, hk, rfl, KL, T, S⟩ := hrel
  by_cases hlt : k < n
  ·obtain ⟨g, rfl⟩ := HA.out (by omega)
   obtain ⟨x, hx⟩ := len_of (d := dk) (k := k) (by rw [KL.out]; exact hlt)
   have l0 : (0 : Int) ≤ (k : Int) := by omega
   have l1 : (k : Int) < (n : Int) := by omega
   have hx0 := T.out.1.2 x (List.mem_of_getElem? hx)
   have hx1 := T.out.2.2 x (List.mem_of_getElem? hx)
   obtain ⟨c0, c1, c2, c3⟩ := T.out.1.1.cells hx
   have SC := hide (fun W (b : Below wr.heap.size wr W) => rspoil_u (C := C) (s := x.x.s) (A := x.x.u.1) (n := x.x.u.2.1) (c := x.x.u.2.2) (D := x.x.t.1) (m := x.x.t.2.1) (d := x.x.t.2.2) (hx0.1.1.step b) (hx0.2.1.step b) hx0.1.2 hx0.2.2 (Nat.le_trans (Nat.le_trans HB.out S.out.2.1) b.size) hx1.1 hx1.2)
   have HX := hide hx
   clear hx hx0 hx1
   go_wp2_with fail
   refine (SC.out wr (Below.refl _ _)).mono ?_
   rintro e w2 ⟨rfl, sp⟩
   have T2 := hide (T.out.spu sp)
   have S2 := hide (S.out.trans (Spn.of_spu sp))
   obtain ⟨T3, S3⟩ := T2.out.put HX.out (-9)
   have S4 := hide (S2.out.trans S3)
   have T4 := hide T3
   obtain ⟨d0, d1, d2, d3⟩ := T2.out.1.1.cells HX.out
   have f0 := T2.out.1.1.frozen rfl (k * 4)
   have K2 := hide (show (dk.set k ⟨-9, x.x⟩).length = n by rw [List.length_set]; exact KL.out)
   clear SC T S sp T3 S3 c0 c1 c2 c3
   go_wp2_with fail
   exact ⟨⟨k + 1, dk.set k ⟨-9, x.x⟩, by omega, by go_num, K2, T4, S4⟩, by simp [intOf]; omega⟩
  ·obtain rfl : k = n := by omega
   go_wp2_with fail
   go_end0
   exact ⟨rfl, S.out⟩
end Go.Proofs.YtnhlomphdighnaaGreat
