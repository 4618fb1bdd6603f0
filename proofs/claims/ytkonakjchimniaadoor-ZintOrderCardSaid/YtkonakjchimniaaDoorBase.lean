/-
  The small functions under package nat: reading a word behind a list's end, cutting off noughts, words' sums and products.
-/
import Derived.Test.YtkonakjchimniaaDoorProg
import Derived.Test.YtkonakjchimniaaDoorMem
import Derived.WalkKit
import Derived.WalkSpells
import Derived.WalkLawsBesides
import Derived.Deep.DeepFit
import Derived.Outline
import Derived.KernelRfl
namespace Go.Proofs.YtkonakjchimniaaDoor
open Go.RowKit Go.Proofs.YtkonakjchimniaaDoor.Num
set_option linter.unusedVariables false

/-- What stands at a place, 0 ahead of the list and behind it. -/
def atN (xs : List Nat) (i : Int) : Nat := if i < 0 then 0 else xs.getD i.toNat 0

theorem at_any (B : Nat) (A : Option Addr) (n c : Nat) (xs : List Nat) (i : Int) (w : World) (h : Rd .u64 w B A n xs) (hn : n ≤ maxLen) :
    Calls Tryd.prog 76 #[.slice A n c, .int .i64 i] w fun e w' => e = .returned (.int .u64 ((atN xs i : Nat) : Int)) ∧ w = w' := by
  unfold maxLen at hn
  by_cases h0 : i < 0
  · have e : Hid (atN xs i = 0) := hide (by unfold atN; rw [if_pos h0])
    go_enter Tryd.func76, Tryd.ntmps76
    go_wp2
    go_ret
    exact ⟨by rw [e.out]; rfl, rfl⟩
  · obtain ⟨m, rfl⟩ := Int.eq_ofNat_of_zero_le (Int.not_lt.1 h0)
    have hl := h.1
    by_cases h1 : m < n
    · obtain ⟨b, off, rfl, _, hc⟩ := h.at_ h1
      have e : Hid (atN xs (m : Int) = xs.getD m 0) := hide (by unfold atN; rw [if_neg h0]; rfl)
      clear h
      obtain ⟨x, hx⟩ : ∃ x, xs.getD m 0 = x := ⟨_, rfl⟩
      rw [hx] at hc e
      clear hx hl
      go_enter Tryd.func76, Tryd.ntmps76
      go_wp2
      go_ret
      exact ⟨by rw [e.out]; rfl, rfl⟩
    · have e : Hid (atN xs (m : Int) = 0) := hide (by
        unfold atN; rw [if_neg h0]; simp [List.getD_eq_getElem?_getD, List.getElem?_eq_none (show xs.length ≤ m by omega)])
      clear h hl
      go_enter Tryd.func76, Tryd.ntmps76
      go_wp2
      go_ret
      exact ⟨by rw [e.out]; rfl, rfl⟩

theorem at_get (B : Nat) (A : Option Addr) (n c : Nat) (xs : List Nat) (i x : Nat) (w : World) (h : Rd .u64 w B A n xs) (hn : n ≤ maxLen) (hx : Hid (xs.getD i 0 = x)) :
    Calls Tryd.prog 76 #[.slice A n c, .int .i64 (i : Int)] w fun e w' => e = .returned (.int .u64 (x : Int)) ∧ w = w' := by
  have h1 := at_any B A n c xs (i : Int) w h hn
  have e : atN xs (i : Int) = x := by unfold atN; rw [if_neg (by omega)]; exact hx.out
  rw [e] at h1
  exact h1

/-- A list's first words, or nil. -/
def clipV (A : Option Addr) (m c : Nat) : Value := if m = 0 then .slice none 0 0 else .slice A m c
theorem clipV_zero (A : Option Addr) (c : Nat) : clipV A 0 c = .slice none 0 0 := rfl
theorem clipV_pos (A : Option Addr) {m : Nat} (c : Nat) (h : 0 < m) : clipV A m c = .slice A m c := by unfold clipV; rw [if_neg (by omega)]

theorem tz_step_zero (xs : List Nat) (m : Nat) (hm : m < xs.length) (h : xs.getD m 0 = 0) : tz (xs.take (m + 1)) = tz (xs.take m) := by
  rw [List.take_succ_eq_append_getElem hm]
  have e : xs[m] = 0 := by simpa [List.getD_eq_getElem?_getD, hm] using h
  rw [e, tz_append_zero]
theorem tz_step_pos (xs : List Nat) (m : Nat) (hm : m < xs.length) (h : xs.getD m 0 ≠ 0) : (tz (xs.take (m + 1))).length = m + 1 := by
  rw [List.take_succ_eq_append_getElem hm]
  have e : xs[m] ≠ 0 := by simpa [List.getD_eq_getElem?_getD, hm] using h
  rw [tz_append_pos _ e]
  simp; omega

theorem clip_any (B : Nat) (A : Option Addr) (n c : Nat) (xs : List Nat) (w : World) (h : Rd .u64 w B A n xs) (hnc : n ≤ c) (hc : c ≤ maxLen) :
    Calls Tryd.prog 50 #[.slice A n c] w fun e w' => e = .returned (clipV A (tz xs).length c) ∧ w = w' := by
  unfold maxLen at hc
  have hl := h.1
  have h00 : Hid (tz (xs.take n) = tz xs) := hide (by rw [List.take_of_length_le (by omega)])
  clear hl
  go_enter Tryd.func50, Tryd.ntmps50
  go_wp2
  go_loop [3] (fun v => ∃ k : Nat, k ≤ n ∧ v = .int .i64 k ∧ Hid (tz (xs.take k) = tz xs)) (fun v => (intOf v).toNat)
  case atStart => exact ⟨n, Nat.le_refl _, rfl, h00⟩
  case round =>
    obtain ⟨k, hk, rfl, ht⟩ := hrel
    by_cases h0 : k = 0
    · subst h0
      go_wp2
      go_ret
      refine ⟨?_, rfl⟩
      have e := ht.out
      rw [List.take_zero] at e
      rw [← e]; rfl
    · obtain ⟨m, rfl⟩ : ∃ m, k = m + 1 := ⟨k - 1, by omega⟩
      obtain ⟨b, off, rfl, _, hcell⟩ := h.at_ (show m < n by omega)
      have hm : m < xs.length := by have := h.1; omega
      by_cases hx : xs.getD m 0 = 0
      · have e2 : Hid (tz (xs.take m) = tz xs) := hide (by rw [← tz_step_zero xs m hm hx]; exact ht.out)
        rw [hx] at hcell
        clear h hm hx h0
        go_wp2
        go_round
        case rel => exact ⟨m, by omega, rfl, e2⟩
        case measure => simp [intOf]
      · have e2 : Hid ((tz xs).length = m + 1) := hide (by rw [← ht.out]; exact tz_step_pos xs m hm hx)
        obtain ⟨x, hxx⟩ : ∃ x, xs.getD m 0 = x := ⟨_, rfl⟩
        rw [hxx] at hcell hx
        have hb : (((x : Int) != 0)) = true := by rw [bne_iff_ne]; omega
        clear h hm hxx h0
        go_wp2
        go_ret
        exact ⟨by rw [e2.out, clipV_pos _ _ (by omega)]; rfl, rfl⟩

/-- The first words of a block of the call's own. -/
theorem own_clip {k : IntKind} {t : TypeId} {w : World} {g cap B : Nat} {C : Array Value} {zs : List Nat} (h : Row k t w g 0 C zs) (hB : B ≤ g) (hC : C.size = cap) (hm : cap ≤ maxLen) :
    Own k t w B (clipV (some ⟨g, 0, none⟩) (tz zs).length cap) (tz zs) := by
  rcases Nat.eq_zero_or_pos (tz zs).length with h0 | h0
  · rw [h0, clipV_zero, List.eq_nil_of_length_eq_zero h0]
    exact Own.nil
  · rw [clipV_pos _ _ h0]
    obtain ⟨C', hs, hr⟩ := h.first (tz_length_le zs)
    rw [← tz_take] at hr
    exact Own.of_row hr hB (hs.trans hC) hm
/-- A list that is filled from its beginning on. -/
theorem fill_set (zs : List Nat) (n z : Nat) : (zs ++ List.replicate (n + 1) 0).set zs.length z = zs ++ [z] ++ List.replicate n 0 := by
  rw [List.set_append_right _ _ (Nat.le_refl _), Nat.sub_self, List.replicate_succ, List.set_cons_zero, List.append_assoc]; rfl
theorem fill_len (zs : List Nat) (n : Nat) : (zs ++ List.replicate n 0).length = zs.length + n := by simp
end Go.Proofs.YtkonakjchimniaaDoor
