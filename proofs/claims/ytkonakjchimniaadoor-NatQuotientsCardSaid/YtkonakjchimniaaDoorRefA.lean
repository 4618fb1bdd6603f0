/-
  The small functions of the document's own answer for layer 1: a place behind a list's end, noughts cut off, a small number's places.
-/
import Derived.Test.YtkonakjchimniaaDoorList
import Derived.Deep.DeepCutAuto
import Derived.Deep.CutBlock
import Derived.BigGuardPart
namespace Go.Proofs.YtkonakjchimniaaDoor
open Go.RowKit Go.Proofs.YtkonakjchimniaaDoor.Num
set_option linter.unusedVariables false
set_option maxRecDepth 100000

theorem place_any (B : Nat) (A : Option Addr) (n c i x : Nat) (xs : List Nat) (w : World) (h : Rd .i64 w B A n xs) (hn : n ≤ maxLen) (hx : Hid (xs.getD i 0 = x)) :
    Calls Tryd.prog 93 #[.slice A n c, .int .i64 (i : Int)] w fun e w' => e = .returned (.int .i64 (x : Int)) ∧ w = w' := by
  unfold maxLen at hn
  have hl := h.1
  by_cases h1 : i < n
  · obtain ⟨b, off, rfl, _, hc⟩ := h.at_ h1
    rw [hx.out] at hc
    clear h hx hl
    go_enter Tryd.func93, Tryd.ntmps93
    go_wp2
    go_ret
    exact ⟨rfl, rfl⟩
  · have e : x = 0 := by
      rw [← hx.out]; simp [List.getD_eq_getElem?_getD, List.getElem?_eq_none (show xs.length ≤ i by omega)]
    subst e
    clear h hl hx
    go_enter Tryd.func93, Tryd.ntmps93
    go_wp2
    go_ret
    exact ⟨rfl, rfl⟩

theorem info_int : (Tryd.prog.info? 3).map (fun i => (i.zero, i.size, i.bytes)) = some (some (.int .i64 0), 1, 8) := by kernel_rfl

set_option maxHeartbeats 1000000 in
theorem rtrim_any (A : Option Addr) (n c : Nat) (xs : List Nat) (w : World) (hx : Rd .i64 w w.heap.size A n xs) (hn : n ≤ 17592186044000) :
    Calls Tryd.prog 61 #[.slice A n c] w (OwnRet .i64 3 w (tz xs)) := by
  obtain ⟨i0, hi, hz0, hz1, hz2⟩ := info_parts info_int
  have hl := hx.1
  have h00 : Hid (tz (xs.take n) = tz xs) := hide (by rw [List.take_of_length_le (by omega)])
  have Hx := hide hx
  clear hl hx
  have hz : Hid (Rd .i64 w w.heap.size A (tz xs).length (tz xs)) := hide (by
    have h1 := Hx.out.first (m := (tz xs).length) (by have h2 := tz_length_le xs; have h3 := Hx.out.1; omega)
    rw [← tz_take] at h1
    exact h1)
  have hzn : Hid ((tz xs).length ≤ 17592186044000) := hide (by have h2 := tz_length_le xs; have h3 := Hx.out.1; omega)
  have hzn2 : Hid ((tz xs).length ≤ n) := hide (by have h2 := tz_length_le xs; have h3 := Hx.out.1; omega)
  go_enter Tryd.func61, Tryd.ntmps61
  go_upto_block 0 with fail
  go_cut [3] (fun v wx => v = .int .i64 (((tz xs).length : Nat) : Int) ∧ w = wx)
  case first =>
    clear hz hzn hzn2
    go_wp2_with fail
    go_loop [3] (fun v => ∃ k : Nat, k ≤ n ∧ v = .int .i64 k ∧ Hid (tz (xs.take k) = tz xs)) (fun v => (intOf v).toNat)
    case atStart => exact ⟨n, Nat.le_refl _, rfl, h00⟩
    case round =>
      obtain ⟨k, hk, rfl, ht⟩ := hrel
      by_cases h0 : k = 0
      · subst h0
        go_wp2_with fail
        go_meet
        have e := ht.out
        rw [List.take_zero] at e
        exact ⟨by rw [← e]; rfl, rfl⟩
      · obtain ⟨m, rfl⟩ : ∃ m, k = m + 1 := ⟨k - 1, by omega⟩
        have h := Hx.out
        obtain ⟨b, off, rfl, _, hcell⟩ := h.at_ (show m < n by omega)
        have hm : m < xs.length := by have := h.1; omega
        by_cases hx : xs.getD m 0 = 0
        · have e2 : Hid (tz (xs.take m) = tz xs) := hide (by rw [← tz_step_zero xs m hm hx]; exact ht.out)
          rw [hx] at hcell
          clear h hm hx h0
          go_wp2_with fail
          go_round
          case rel => exact ⟨m, by omega, rfl, e2⟩
          case measure => simp [intOf]
        · have e2 : Hid ((tz xs).length = m + 1) := hide (by rw [← ht.out]; exact tz_step_pos xs m hm hx)
          obtain ⟨x, hxx⟩ : ∃ x, xs.getD m 0 = x := ⟨_, rfl⟩
          rw [hxx] at hcell hx
          have hb : (((x : Int) == 0)) = false := beq_eq_false_iff_ne.2 (by omega)
          clear h hm hxx h0
          go_wp2_with fail
          go_meet
          exact ⟨by rw [e2.out]; rfl, rfl⟩
  case rest =>
    obtain ⟨rfl, rfl⟩ := hcut
    clear h00 Hx
    generalize tz xs = zs at *
    clear xs
    obtain ⟨m, hm⟩ : ∃ m, zs.length = m := ⟨_, rfl⟩
    rw [hm] at hz hzn hzn2 ⊢
    have hmn := hzn.out
    have hmle := hzn2.out
    clear hzn hzn2
    go_wp2_with fail
    go_loopw [4, 5] (fun v iv wr => CopyRel .i64 3 w m zs v iv wr) (fun _ iv _ => m - (intOf iv).toNat)
    case atStart => exact ⟨0, Nat.zero_le _, rfl, by simpa using own_empty .i64 3 w w.heap.size (Nat.le_refl _), (Below.refl _ _).alloc (Nat.le_refl _) _⟩
    case round =>
      obtain ⟨k, hk, rfl, hown, hbel⟩ := hrel
      by_cases hlt : k < m
      · have hkn : k < n := by omega
        obtain ⟨x, ex⟩ : ∃ x, Hid (zs.getD k 0 = x) := ⟨_, hide rfl⟩
        have hx2 := hz.out.below hbel (Nat.le_refl _)
        obtain ⟨b, o, rfl, hbb, hc⟩ := hx2.at_ hlt
        rw [ex.out] at hc
        have ht := hide (take_push zs (by rw [hm]; exact hlt) ex.out)
        have hsz := hbel.size
        have hlen : (zs.take k).length + 1 ≤ 17592186044416 := by rw [List.length_take]; omega
        have fin : ∀ u v' w', Own .i64 3 wr w.heap.size u (zs.take k) → Own .i64 3 w' w.heap.size v' (zs.take k ++ [x]) → wr.grownBy w' u.ownBlock → CopyRel .i64 3 w m zs v' (.int .i64 ((k + 1 : Nat) : Int)) w' := by
          intro u v' w' hu ho hg
          rw [ht.out] at ho
          exact ⟨k + 1, by omega, rfl, ho, push_below hbel hu hg hsz⟩
        have Hown := hide hown
        have Hsz := hide hsz
        have Hlen := hide hlen
        clear hz hx2 hown hbel ht ex hsz hlen hbb
        go_wp2_with (at_builtin; go_must (refine wpList_push rfl (.tmp 26) (.tmp 31) 29 rfl Tryd.underlying29 hi hz0 hz1 hz2 rfl wr w.heap.size _ (zs.take k) x Hown.out rfl rfl Hlen.out (by decide) Hsz.out ?_); intro v' w' ho hg; have fin2 := fin _ v' w' Hown.out ho hg.1; clear fin ho hg)
        go_roundw
        case rel => exact fin2
        case measure => simp [intOf]; omega
      · obtain rfl : k = m := by omega
        rw [List.take_of_length_le (by omega)] at hown
        clear hz
        go_wp2_with fail
        go_ret
        exact ⟨_, rfl, hown, hbel⟩
end Go.Proofs.YtkonakjchimniaaDoor
