/-
  Lists copied, compared, written over: nat.Trim, the law's spoil, the document's Copy and Same.
-/
import Derived.Test.YtkonakjchimniaaDoorMul
import Derived.Test.YtkonakjchimniaaDoorPush
import Derived.Deep.QuietTactic
import Derived.BigQuiet
namespace Go.Proofs.YtkonakjchimniaaDoor
open Go.RowKit Go.Proofs.YtkonakjchimniaaDoor.Num
set_option linter.unusedVariables false
set_option maxRecDepth 100000

def sameB (xs ys : List Nat) : Bool := decide (xs = ys)
theorem sameB_true {xs ys : List Nat} (h : xs = ys) : sameB xs ys = true := by unfold sameB; exact decide_eq_true h
theorem sameB_false {xs ys : List Nat} (h : xs ≠ ys) : sameB xs ys = false := by unfold sameB; exact decide_eq_false h

theorem take_same {xs ys : List Nat} {k x y : Nat} (h : xs.take k = ys.take k) (hx : xs.getD k 0 = x) (hy : ys.getD k 0 = y) (hlx : k < xs.length) (hly : k < ys.length) (e : x = y) : xs.take (k + 1) = ys.take (k + 1) := by
  rw [List.take_succ_eq_append_getElem hlx, List.take_succ_eq_append_getElem hly, h]
  have e1 : xs[k] = x := by simpa [List.getD_eq_getElem?_getD, hlx] using hx
  have e2 : ys[k] = y := by simpa [List.getD_eq_getElem?_getD, hly] using hy
  rw [e1, e2, e]
theorem ne_of_at {xs ys : List Nat} {k x y : Nat} (hx : xs.getD k 0 = x) (hy : ys.getD k 0 = y) (e : x ≠ y) : xs ≠ ys := by
  rintro rfl
  exact e (hx.symm.trans hy)

/-- A call that only reads: a value, and draws. -/
def QuietRet (w : World) (v : Value) (e : Ending) (w' : World) : Prop := e = .returned v ∧ ∃ m, w' = w.drewN m

set_option maxHeartbeats 1000000 in
theorem same_any (B B' : Nat) (A D : Option Addr) (n c m d : Nat) (xs ys : List Nat) (w : World) (hx : Rd .u64 w B A n xs) (hy : Rd .u64 w B' D m ys) (hn : n ≤ maxLen) (hm : m ≤ maxLen) :
    Calls Tryd.prog 16 #[.slice A n c, .slice D m d] w (QuietRet w (.bool (sameB xs ys))) := by
  unfold maxLen at hn hm
  by_cases hnm : n = m
  · subst hnm
    have hb : (((n : Int) != (n : Int))) = false := by simp
    go_enter Tryd.func16, Tryd.ntmps16
    go_wp2_with fail
    go_loopw [5] (fun iv wr => ∃ k q : Nat, k ≤ n ∧ iv = .int .i64 (k : Int) ∧ Hid (xs.take k = ys.take k) ∧ wr = w.drewN q) (fun iv _ => n - (intOf iv).toNat)
    case atStart => exact ⟨0, 0, Nat.zero_le _, rfl, hide (by simp), rfl⟩
    case round =>
      obtain ⟨k, q, hk, rfl, ht, rfl⟩ := hrel
      by_cases hlt : k < n
      · obtain ⟨x, ex⟩ : ∃ x, Hid (xs.getD k 0 = x) := ⟨_, hide rfl⟩
        obtain ⟨y, ey⟩ : ∃ y, Hid (ys.getD k 0 = y) := ⟨_, hide rfl⟩
        obtain ⟨b1, o1, rfl, _, h1⟩ := hx.at_ hlt
        obtain ⟨b2, o2, rfl, _, h2⟩ := hy.at_ hlt
        rw [ex.out] at h1
        rw [ey.out] at h2
        have lx := hx.1
        have ly := hy.1
        have i0 : (0 : Int) ≤ (k : Int) := by omega
        have i1 : (k : Int) < (n : Int) := by omega
        by_cases hxy : x = y
        · have ht2 := hide (take_same ht.out ex.out ey.out (by omega) (by omega) hxy)
          subst hxy
          clear hx hy ht ex ey lx ly
          go_wp2_with fail
          go_quiet (fail)
          go_wp2_with fail
          go_roundw
          case rel => exact ⟨k + 1, q + nq, by omega, by go_num, ht2, rfl⟩
          case measure => simp [intOf]; omega
        · have hf := hide (sameB_false (ne_of_at ex.out ey.out hxy))
          have hne : ((x : Int) != (y : Int)) = true := by rw [bne_iff_ne]; omega
          clear hx hy ht ex ey lx ly
          go_wp2_with fail
          go_quiet (fail)
          go_wp2_with fail
          go_ret
          exact ⟨by rw [hf.out]; rfl, q + nq, by first | rfl | exact World.drewN_drewN _ _ _⟩
      · obtain rfl : k = n := by omega
        have e := ht.out
        rw [List.take_of_length_le (by rw [hx.1]; exact Nat.le_refl _), List.take_of_length_le (by rw [hy.1]; exact Nat.le_refl _)] at e
        have hf := hide (sameB_true e)
        clear hx hy ht e
        go_wp2_with fail
        go_ret
        exact ⟨by rw [hf.out]; rfl, q, rfl⟩
  · have hf : Hid (sameB xs ys = false) := hide (sameB_false (fun e => hnm (by rw [← hx.1, ← hy.1, e])))
    have hb : (((n : Int) != (m : Int))) = true := by rw [bne_iff_ne]; omega
    go_enter Tryd.func16, Tryd.ntmps16
    go_wp2_with fail
    go_ret
    exact ⟨by rw [hf.out]; rfl, 0, rfl⟩

/-! ### Written over -/
set_option maxHeartbeats 1000000 in
theorem spoil_row (g off n c : Nat) (C : Array Value) (zs : List Nat) (w : World) (hr : Row .u64 71 w g off C zs) (hzn : zs.length = n) (hn : n ≤ maxLen) :
    Calls Tryd.prog 20 #[.slice (some ⟨g, off, none⟩) n c] w fun e w' => e = .returned (.tuple #[]) ∧ w.grownBy w' (some g) := by
  unfold maxLen at hn
  have Hz := hide hzn
  clear hzn
  go_enter Tryd.func20, Tryd.ntmps20
  go_wp2_with fail
  go_loopw [5] (fun iv wr => ∃ (k : Nat) (us : List Nat), k ≤ n ∧ iv = .int .i64 (k : Int) ∧ Hid (us.length = n) ∧ Row .u64 71 wr g off C us ∧ w.grownBy wr (some g)) (fun iv _ => n - (intOf iv).toNat)
  case atStart => exact ⟨0, zs, Nat.zero_le _, rfl, Hz, hr, only_refl _ _⟩
  case round =>
    obtain ⟨k, us, hk, rfl, hu, hrow, hg⟩ := hrel
    by_cases hlt : k < n
    · have hkl : k < us.length := by rw [hu.out]; exact hlt
      obtain ⟨v0, hc⟩ : ∃ v0 : Int, wr.cell? ⟨g, off + k, none⟩ = some (.int .u64 v0) := ⟨_, hrow.cell hkl⟩
      have hf := hrow.frozen (off + k)
      have hs := hrow.set_ hkl 238
      have hg2 := only_set (p := ⟨g, off + k, none⟩) hg rfl (.int .u64 238)
      have hu2 : Hid ((us.set k 238).length = n) := hide (by rw [List.length_set]; exact hu.out)
      clear hkl hrow hg hu hr
      go_wp2_with fail
      go_roundw
      case rel => exact ⟨k + 1, _, by omega, by go_num, hu2, hs, hg2⟩
      case measure => simp [intOf]; omega
    · obtain rfl : k = n := by omega
      clear hr
      go_wp2_with fail
      go_end0
      exact ⟨rfl, hg⟩
theorem spoil_nil (c : Nat) (w : World) : Calls Tryd.prog 20 #[.slice none 0 c] w fun e w' => e = .returned (.tuple #[]) ∧ w = w' := by
  go_enter Tryd.func20, Tryd.ntmps20
  go_wp2_with fail
  go_loop [5] (fun iv => iv = .int .i64 0) (fun _ => 0)
  case atStart => rfl
  case round =>
    subst hrel
    go_wp2_with fail
    go_end0
    exact ⟨rfl, rfl⟩
theorem spoil_own (B : Nat) (v : Value) (zs : List Nat) (w : World) (h : Own .u64 71 w B v zs) :
    Calls Tryd.prog 20 #[v] w fun e w' => e = .returned (.tuple #[]) ∧ w.grownBy w' v.ownBlock := by
  rcases h with ⟨rfl, rfl⟩ | ⟨g, cap, C, rfl, hB, hr, hC, hm⟩
  · exact (spoil_nil 0 w).mono fun e w' ⟨he, hw⟩ => ⟨he, by rw [← hw]; exact only_refl _ _⟩
  · obtain ⟨cs, _, _, hl, _⟩ := id hr
    exact spoil_row g 0 zs.length cap C zs w hr rfl (by omega)

/-! ### Copied -/
theorem take_push (xs : List Nat) {k x : Nat} (hk : k < xs.length) (hx : xs.getD k 0 = x) : xs.take k ++ [x] = xs.take (k + 1) := by
  rw [List.take_succ_eq_append_getElem hk]
  have e1 : xs[k] = x := by simpa [List.getD_eq_getElem?_getD, hk] using hx
  rw [e1]

def CopyRel (k0 : IntKind) (t : TypeId) (w : World) (n : Nat) (xs : List Nat) (v iv : Value) (wr : World) : Prop :=
  ∃ k : Nat, k ≤ n ∧ iv = .int .i64 (k : Int) ∧ Own k0 t wr w.heap.size v (xs.take k) ∧ Below w.heap.size w wr

theorem own_empty (k : IntKind) (t : TypeId) (w : World) (B : Nat) (hB : B ≤ w.heap.size) : Own k t (w.alloc (.cells #[] t)) B (.slice (some ⟨w.heap.size, 0, none⟩) 0 0) [] :=
  Own.of_row (Row.new w k t #[] [] (Nat.le_refl _) (fun j hj => absurd hj (by simp))) hB rfl (by simp [maxLen])

set_option maxHeartbeats 1000000 in
theorem copy_any (A : Option Addr) (n c : Nat) (xs : List Nat) (w : World) (hx : Rd .u64 w w.heap.size A n xs) (hn : n ≤ 17592186044000) :
    Calls Tryd.prog 12 #[.slice A n c] w (OwnRet .u64 71 w xs) := by
  obtain ⟨i0, hi, hz0, hz1, hz2⟩ := info_parts info_u64
  go_enter Tryd.func12, Tryd.ntmps12
  go_wp2_with fail
  go_loopw [3, 4] (fun v iv wr => CopyRel .u64 71 w n xs v iv wr) (fun _ iv _ => n - (intOf iv).toNat)
  case atStart => exact ⟨0, Nat.zero_le _, rfl, by simpa using own_empty .u64 71 w w.heap.size (Nat.le_refl _), (Below.refl _ _).alloc (Nat.le_refl _) _⟩
  case round =>
    obtain ⟨k, hk, rfl, hown, hbel⟩ := hrel
    by_cases hlt : k < n
    · obtain ⟨x, ex⟩ : ∃ x, Hid (xs.getD k 0 = x) := ⟨_, hide rfl⟩
      have hx2 := hx.below hbel (Nat.le_refl _)
      obtain ⟨b, o, rfl, hbb, hc⟩ := hx2.at_ hlt
      rw [ex.out] at hc
      have ht := hide (take_push xs (by rw [hx.1]; exact hlt) ex.out)
      have hsz := hbel.size
      have hlen : (xs.take k).length + 1 ≤ 17592186044416 := by rw [List.length_take]; omega
      have fin : ∀ u v' w', Own .u64 71 wr w.heap.size u (xs.take k) → Own .u64 71 w' w.heap.size v' (xs.take k ++ [x]) → wr.grownBy w' u.ownBlock → CopyRel .u64 71 w n xs v' (.int .i64 ((k + 1 : Nat) : Int)) w' := by
        intro u v' w' hu ho hg
        rw [ht.out] at ho
        exact ⟨k + 1, by omega, rfl, ho, push_below hbel hu hg hsz⟩
      have Hown := hide hown
      have Hsz := hide hsz
      have Hlen := hide hlen
      clear hx hx2 hown hbel ht ex hsz hlen hbb
      go_wp2_with (at_builtin; go_must (refine wpList_push rfl (.tmp 12) (.tmp 17) 22 rfl Tryd.underlying22 hi hz0 hz1 hz2 rfl wr w.heap.size _ (xs.take k) x Hown.out rfl rfl Hlen.out (by decide) Hsz.out ?_); intro v' w' ho hg; have fin2 := fin _ v' w' Hown.out ho hg.1; clear fin ho hg)
      go_roundw
      case rel => exact fin2
      case measure => simp [intOf]; omega
    · obtain rfl : k = n := by omega
      rw [List.take_of_length_le (by rw [hx.1]; exact Nat.le_refl _)] at hown
      clear hx
      go_wp2_with fail
      go_ret
      exact ⟨_, rfl, hown, hbel⟩
end Go.Proofs.YtkonakjchimniaaDoor
