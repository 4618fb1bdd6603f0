/-
  nat.divWord: a number divided by a word, in its place.
-/
import Derived.Test.YtkonakjchimniaaDoorDiv64
namespace Go.Proofs.YtkonakjchimniaaDoor
open Go.RowKit Go.Proofs.YtkonakjchimniaaDoor.Num
set_option linter.unusedVariables false
set_option maxRecDepth 100000

def DwRet (t : TypeId) (w : World) (g : Nat) (C : Array Value) (n d S : Nat) (e : Ending) (w' : World) : Prop :=
  ∃ us : List Nat, e = .returned (.int .u64 ((S % d : Nat) : Int)) ∧ us.length = n ∧ Dg Q us ∧ vl Q us = S / d ∧ Row .u64 t w' g 0 C us ∧ w.grownBy w' (some g)

def DwRel (w : World) (g n d : Nat) (C : Array Value) (zs : List Nat) (rv iv : Value) (wr : World) : Prop :=
  ∃ (k r : Nat) (us : List Nat), k ≤ n ∧ iv = .int .i64 ((k : Int) - 1) ∧ rv = .int .u64 (r : Int) ∧ r < d ∧ us.length + k = n ∧ Dg Q us ∧
    Hid (vl Q (zs.drop k) = vl Q us * d + r) ∧ Row .u64 71 wr g 0 C (zs.take k ++ us) ∧ w.grownBy wr (some g)

theorem take_set (zs us : List Nat) {j : Nat} (hj : j < zs.length) (q : Nat) : (zs.take (j + 1) ++ us).set j q = zs.take j ++ (q :: us) := by
  rw [List.take_succ_eq_append_getElem hj, List.append_assoc, List.set_append_right _ _ (by simp; omega), List.length_take, Nat.min_eq_left (by omega), Nat.sub_self]
  simp
theorem take_getD (zs us : List Nat) {j : Nat} (hj : j < zs.length) : (zs.take (j + 1) ++ us).getD j 0 = zs.getD j 0 := by
  simp only [List.getD_eq_getElem?_getD]
  rw [List.getElem?_append_left (by simp; omega), List.getElem?_take, if_pos (by omega)]

set_option maxHeartbeats 1000000 in
theorem divWord_row (g n c d : Nat) (C : Array Value) (zs : List Nat) (w : World) (hr : Row .u64 71 w g 0 C zs) (hzn : zs.length = n) (dz : Dg Q zs) (hd : 0 < d) (hdQ : d < Q) (hn : n ≤ 9223372036854775807) :
    Calls Tryd.prog 51 #[.slice (some ⟨g, 0, none⟩) n c, .int .u64 (d : Int)] w (DwRet 71 w g C n d (vl Q zs)) := by
  have e0 : DwRel w g n d C zs (.int .u64 0) (.int .i64 ((n : Int) - 1)) w :=
    ⟨n, 0, [], Nat.le_refl _, rfl, rfl, hd, by simp, Dg.nil, hide (by rw [List.drop_eq_nil_of_le (by omega)]; simp [vl]), by rw [List.take_of_length_le (by omega), List.append_nil]; exact hr, only_refl _ _⟩
  have Hz := hide hzn
  clear hzn hr
  go_enter Tryd.func51, Tryd.ntmps51
  go_wp2_with fail
  go_loopw [5, 6] (fun rv iv wr => DwRel w g n d C zs rv iv wr) (fun _ iv _ => (intOf iv + 1).toNat)
  case atStart => exact e0
  case round =>
    obtain ⟨k, r, us, hk, rfl, rfl, hrd, hu, du, hv, hrow, hg⟩ := hrel
    clear e0
    rcases Nat.eq_zero_or_pos k with h0 | h0
    · subst h0
      have e := hv.out
      rw [List.drop_zero] at e
      have e1 : vl Q zs / d = vl Q us := by rw [e, Nat.mul_comm, Nat.mul_add_div hd, Nat.div_eq_of_lt hrd, Nat.add_zero]
      have e2 : vl Q zs % d = r := by rw [e, Nat.mul_comm, Nat.mul_add_mod, Nat.mod_eq_of_lt hrd]
      rw [List.take_zero, List.nil_append] at hrow
      have fin : DwRet 71 w g C n d (vl Q zs) (.returned (.int .u64 (r : Int))) wr := ⟨us, by rw [e2], by omega, du, e1.symm, hrow, hg⟩
      clear e e1 e2 hv hu du hrow hg dz
      go_wp2_with fail
      go_ret
      exact fin
    · obtain ⟨j, rfl⟩ : ∃ j, k = j + 1 := ⟨k - 1, by omega⟩
      have ej : ((j + 1 : Nat) : Int) - 1 = (j : Int) := by omega
      rw [ej]
      have hjz : j < zs.length := by rw [Hz.out]; omega
      obtain ⟨z, ez⟩ : ∃ z, Hid (zs.getD j 0 = z) := ⟨_, hide rfl⟩
      have bz : z < Q := by rw [← ez.out]; exact dz.getD Q_pos j
      have hll : j < (zs.take (j + 1) ++ us).length := by simp; omega
      have hcell := hrow.cell hll
      rw [take_getD zs us hjz, ez.out, Nat.zero_add] at hcell
      have hfr := hrow.frozen j
      have hdiv := div64 r z d wr hdQ bz hrd
      have hqb : (r * Q + z) / d < Q := by
        rw [Nat.div_lt_iff_lt_mul hd]
        have : (r + 1) * Q ≤ d * Q := Nat.mul_le_mul_right _ hrd
        rw [Nat.add_mul] at this
        rw [Nat.mul_comm Q d]
        omega
      have hrb : (r * Q + z) % d < d := Nat.mod_lt _ hd
      have hsum : (r * Q + z) / d * d + (r * Q + z) % d = r * Q + z := Nat.div_add_mod' _ _
      generalize (r * Q + z) / d = q at *
      generalize (r * Q + z) % d = r2 at *
      have fin : ∀ m : Nat, DwRel w g n d C zs (.int .u64 (r2 : Int)) (.int .i64 ((j : Int) - 1)) ((wr.drewN m).setCell ⟨g, j, none⟩ (.int .u64 (q : Int))) := by
        intro m
        have hst := (hrow.drewN m).set_ hll q
        rw [take_set zs us hjz, Nat.zero_add] at hst
        refine ⟨j, r2, q :: us, by omega, rfl, rfl, hrb, by simp; omega, Dg.cons hqb du, hide ?_, hst, only_set (only_drewN hg m) rfl _⟩
        rw [vl_drop Q zs j, ez.out, hv.out]
        simp only [vl]
        rw [Nat.add_mul, Nat.mul_add, Nat.mul_comm Q r, ← Nat.mul_assoc]
        omega
      clear hv hrow hg hu du hsum hqb hrb bz hll hjz dz ez Hz ej
      go_wp2_with (go_at_call 83; refine hdiv.mono ?_; rintro e w' ⟨rfl, m, rfl⟩; have fin := fin m)
      go_roundw
      case rel => exact fin
      case measure => simp [intOf]
theorem divWord_nil (c d : Nat) (w : World) : Calls Tryd.prog 51 #[.slice none 0 c, .int .u64 (d : Int)] w fun e w' => e = .returned (.int .u64 0) ∧ w = w' := by
  go_enter Tryd.func51, Tryd.ntmps51
  go_wp2_with fail
  go_loop [5, 6] (fun rv iv => rv = .int .u64 0 ∧ iv = .int .i64 (-1)) (fun _ _ => 0)
  case atStart => exact ⟨rfl, rfl⟩
  case round =>
    obtain ⟨rfl, rfl⟩ := hrel
    go_wp2_with fail
    go_ret
    exact ⟨rfl, rfl⟩

/-- Of a number of the call's own: the rest is told, the quotient stands in its place. -/
def DwOwn (t : TypeId) (w : World) (B : Nat) (v : Value) (n d S : Nat) (e : Ending) (w' : World) : Prop :=
  ∃ us : List Nat, e = .returned (.int .u64 ((S % d : Nat) : Int)) ∧ us.length = n ∧ Dg Q us ∧ vl Q us = S / d ∧ Own .u64 t w' B v us ∧ w.grownBy w' v.ownBlock
theorem divWord_own (B d : Nat) (v : Value) (zs : List Nat) (w : World) (h : Own .u64 71 w B v zs) (dz : Dg Q zs) (hd : 0 < d) (hdQ : d < Q) :
    Calls Tryd.prog 51 #[v, .int .u64 (d : Int)] w (DwOwn 71 w B v zs.length d (vl Q zs)) := by
  rcases h with ⟨rfl, rfl⟩ | ⟨g, cap, C, rfl, hB, hr, hC, hm⟩
  · refine (divWord_nil 0 d w).mono fun e w' ⟨he, hw⟩ => ?_
    subst hw
    refine ⟨[], ?_, rfl, Dg.nil, ?_, Own.nil, only_refl _ _⟩
    · rw [he]; simp [vl]
    · simp [vl]
  · obtain ⟨cs, _, _, hl, _⟩ := id hr
    have hlm : zs.length ≤ 9223372036854775807 := by unfold maxLen at hm; omega
    refine (divWord_row g zs.length cap d C zs w hr rfl dz hd hdQ hlm).mono fun e w' ⟨us, he, hu, du, hv, hrw, hg⟩ => ?_
    refine ⟨us, he, hu, du, hv, ?_, hg⟩
    rw [← hu]
    exact Own.of_row hrw hB hC hm
end Go.Proofs.YtkonakjchimniaaDoor
