/-
  Small numbers as places of the document's own answer.
-/
import Derived.Test.YtkonakjchimniaaDoorRefA
namespace Go.Proofs.YtkonakjchimniaaDoor
open Go.RowKit Go.Proofs.YtkonakjchimniaaDoor.Num
set_option linter.unusedVariables false
set_option maxRecDepth 100000

def SmRel (t : TypeId) (w : World) (n : Nat) (iv v : Value) (wr : World) : Prop :=
  ∃ (m : Nat) (ds : List Nat), iv = .int .i64 (m : Int) ∧ m ≤ n ∧ Hid (cn 10000 n = ds ++ cn 10000 m) ∧ Own .i64 t wr w.heap.size v ds ∧ Below w.heap.size w wr

set_option maxHeartbeats 1000000 in
theorem small_any (n : Nat) (w : World) (hn : n ≤ 9223372036854775807) :
    Calls Tryd.prog 58 #[.int .i64 (n : Int)] w (OwnRet .i64 3 w (cn 10000 n)) := by
  obtain ⟨i0, hi, hz0, hz1, hz2⟩ := info_parts info_int
  have hlen : Hid ((cn 10000 n).length ≤ 20) := hide (cn_length_le (by omega) (Nat.lt_of_le_of_lt hn (by decide +kernel)))
  go_enter Tryd.func58, Tryd.ntmps58
  go_wp2_with fail
  go_loopw [0, 3] (fun iv v wr => SmRel 3 w n iv v wr) (fun iv _ _ => (intOf iv).toNat)
  case atStart => exact ⟨n, [], rfl, Nat.le_refl _, hide rfl, own_empty .i64 3 w w.heap.size (Nat.le_refl _), (Below.refl _ _).alloc (Nat.le_refl _) _⟩
  case round =>
    obtain ⟨m, ds, rfl, hm, hcn, hown, hbel⟩ := hrel
    by_cases h0 : 0 < m
    · have e1 := cn_pos (B := 10000) (n := m) (by omega) (by omega)
      obtain ⟨q, hq⟩ : ∃ q, m / 10000 = q := ⟨_, rfl⟩
      obtain ⟨r, hr⟩ : ∃ r, m % 10000 = r := ⟨_, rfl⟩
      rw [hq, hr] at e1
      have hqm : q < m := by omega
      have hrb : r < 10000 := by omega
      have eq : Int.tdiv (m : Int) 10000 = (q : Int) := by rw [← hq]; exact (Int.ofNat_tdiv m 10000).symm
      have er : Int.tmod (m : Int) 10000 = (r : Int) := by rw [← hr]; exact (Int.ofNat_tmod m 10000).symm
      have e2 : Hid (cn 10000 n = (ds ++ [r]) ++ cn 10000 q) := hide (by rw [hcn.out, e1, List.append_assoc]; rfl)
      have hsz := hbel.size
      have hl : ds.length + 1 ≤ 17592186044416 := by
        have h1 := congrArg List.length e2.out
        simp only [List.length_append, List.length_cons, List.length_nil] at h1
        have h2 := hlen.out
        omega
      have fin : ∀ u v' w', Own .i64 3 wr w.heap.size u ds → Own .i64 3 w' w.heap.size v' (ds ++ [r]) → wr.grownBy w' u.ownBlock → SmRel 3 w n (.int .i64 (q : Int)) v' w' := by
        intro u v' w' hu ho hg
        exact ⟨q, ds ++ [r], rfl, by omega, e2, ho, push_below hbel hu hg hsz⟩
      have Hown := hide hown
      have Hsz := hide hsz
      have Hl := hide hl
      clear hown hbel hcn e1 e2 hq hr hl hsz hlen
      go_wp2_with (at_builtin; go_must (refine wpList_push rfl (.tmp 7) (.tmp 10) 29 rfl Tryd.underlying29 hi hz0 hz1 hz2 rfl wr w.heap.size _ ds r Hown.out rfl rfl Hl.out (by decide) Hsz.out ?_); intro v' w' ho hg; have fin2 := fin _ v' w' Hown.out ho hg.1; clear fin ho hg)
      go_roundw
      case rel => exact fin2
      case measure => simp [intOf]; omega
    · obtain rfl : m = 0 := by omega
      have e1 : cn 10000 n = ds := by rw [hcn.out, cn_zero, List.append_nil]
      clear hcn hlen
      go_wp2_with fail
      go_ret
      exact ⟨_, rfl, by rw [e1]; exact hown, hbel⟩
end Go.Proofs.YtkonakjchimniaaDoor
