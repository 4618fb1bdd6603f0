/-
  nat.Trim: a number's one form, as new memory.
-/
import Derived.Test.YtkonakjchimniaaDoorList
import Derived.Lib.SliceRun
namespace Go.Proofs.YtkonakjchimniaaDoor
open Go.RowKit Go.Proofs.YtkonakjchimniaaDoor.Num
set_option linter.unusedVariables false
set_option maxRecDepth 100000

theorem clone_nil (c : Nat) (w : World) : Calls Tryd.prog 65 #[.slice none 0 c] w fun e w' => e = .returned (.slice none 0 0) ∧ w = w' := by
  have h := Lib.run_eql_slice_nil (P := Tryd.prog) w 22 71 none 0 c 0 0 Tryd.underlying22
  go_enter Tryd.func65, Tryd.ntmps65
  go_wp2_with fail
  go_ret
  exact ⟨rfl, rfl⟩
theorem clone_some (ad : Addr) (n c : Nat) (xs : List Nat) (w : World) (hx : Rd .u64 w w.heap.size (some ad) n xs) (hn : n ≤ 17592186044000) :
    Calls Tryd.prog 65 #[.slice (some ad) n c] w (OwnRet .u64 71 w xs) := by
  obtain ⟨i0, hi, hz0, hz1, hz2⟩ := info_parts info_u64
  have h := Lib.run_eql_slice_nil (P := Tryd.prog) w 22 71 (some ad) n c 0 0 Tryd.underlying22
  have Hx := hide hx
  have Hn : Hid (n ≤ 17592186044416) := hide (by omega)
  clear hx hn
  go_enter Tryd.func65, Tryd.ntmps65
  go_wp2_with (at_builtin; refine wpList_clone rfl (.tmp 5) (.tmp 6) 22 rfl Tryd.underlying22 hi hz0 hz1 hz2 rfl w ad n c xs rfl rfl Hx.out Hn.out (by decide) ?_; intro v' w' ho hb)
  go_ret
  exact ⟨_, rfl, ho, hb⟩

theorem trim_any (A : Option Addr) (n c : Nat) (xs : List Nat) (w : World) (hx : Rd .u64 w w.heap.size A n xs) (dx : Dg Q xs) (hnc : n ≤ c) (hc : c ≤ maxLen) (hn : n ≤ 17592186044000) :
    Calls Tryd.prog 21 #[.slice A n c] w (OwnRet .u64 71 w (cn Q (vl Q xs))) := by
  obtain ⟨A', c', hpc, hcm, hx', -, cx⟩ := clip_get _ A n c xs w hx hnc hc
  rw [cn_vl Q_two dx]
  have hl := tz_length_le xs
  have hxl := hx.1
  generalize tz xs = zs at *
  rcases Nat.eq_zero_or_pos zs.length with h0 | h0
  · obtain rfl := List.eq_nil_of_length_eq_zero h0
    simp only [List.length_nil] at cx hx' hpc
    rcases A' with _ | ad
    · have hcl := clone_nil c' w
      clear hx hx' h0 hl hxl
      go_enter Tryd.func21, Tryd.ntmps21
      go_wp2_with (first
        | (go_at_call 50; (with_reducible refine cx.mono ?_); rintro e w' ⟨rfl, rfl⟩)
        | (go_at_call 65; refine hcl.mono ?_; rintro e w' ⟨rfl, rfl⟩))
      go_ret
      exact ⟨_, rfl, Own.nil, Below.refl _ _⟩
    · have hcl := clone_some ad 0 c' [] w hx' (by omega)
      clear hx hx' h0 hl hxl
      go_enter Tryd.func21, Tryd.ntmps21
      go_wp2_with (first
        | (go_at_call 50; (with_reducible refine cx.mono ?_); rintro e w' ⟨rfl, rfl⟩)
        | (go_at_call 65; refine hcl.mono ?_; rintro e w' ⟨v, rfl, ho, hb⟩))
      go_ret
      exact ⟨_, rfl, ho, hb⟩
  · obtain ⟨b, o, rfl, _, _⟩ := hx'.at_ h0
    have hcl := clone_some ⟨b, o, none⟩ zs.length c' zs w hx' (by omega)
    have Hz := hide (show zs.length = zs.length from rfl)
    obtain ⟨m, hm⟩ : ∃ m, zs.length = m := ⟨_, rfl⟩
    rw [hm] at hcl cx
    clear hx hx' h0 hl hxl hm hpc
    go_enter Tryd.func21, Tryd.ntmps21
    go_wp2_with (first
      | (go_at_call 50; (with_reducible refine cx.mono ?_); rintro e w' ⟨rfl, rfl⟩)
      | (go_at_call 65; refine hcl.mono ?_; rintro e w' ⟨v, rfl, ho, hb⟩))
    go_ret
    exact ⟨_, rfl, ho, hb⟩
end Go.Proofs.YtkonakjchimniaaDoor
