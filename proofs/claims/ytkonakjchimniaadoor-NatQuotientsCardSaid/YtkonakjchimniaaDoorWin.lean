/-
  nat.window: a number's topmost 64 bits.
-/
import Derived.Test.YtkonakjchimniaaDoorLeap
import Derived.Test.YtkonakjchimniaaDoorShift
namespace Go.Proofs.YtkonakjchimniaaDoor
open Go.RowKit Go.Proofs.YtkonakjchimniaaDoor.Num
set_option linter.unusedVariables false
set_option maxRecDepth 100000

theorem win_any (B : Nat) (A : Option Addr) (n c k s h : Nat) (xs : List Nat) (w : World) (hx : Rd .u64 w B A n xs) (dx : Dg Q xs) (hn : n ≤ k + 2) (hk : k ≤ 17592186044416) (hs : s ≤ 63)
    (hh : xs.getD (k + 1) 0 = h) (hlt : h * 2 ^ s < Q) :
    Calls Tryd.prog 91 #[.slice A n c, .int .i64 ((k : Int) + 2), .int .i64 (s : Int)] w (QuietRet w (.int .u64 ((vl Q xs / (Q ^ k * 2 ^ (64 - s)) : Nat) : Int))) := by
  obtain ⟨m, hm⟩ : ∃ m, xs.getD k 0 = m := ⟨_, rfl⟩
  have bm : m < Q := by rw [← hm]; exact dx.getD Q_pos k
  have hw := win_eq dx (by have := hx.1; omega) hh hm hs
  obtain ⟨cc, hcc⟩ : ∃ cc, m / 2 ^ (64 - s) = cc := ⟨_, rfl⟩
  have bcc : cc < 2 ^ s := by rw [← hcc]; exact carry_lt m s hs bm
  obtain ⟨eo, bo⟩ := up_word h cc s hs bcc
  rw [Nat.mod_eq_of_lt hlt] at eo bo
  obtain ⟨y, hy⟩ : ∃ y, h * 2 ^ s = y := ⟨_, rfl⟩
  obtain ⟨o, ho⟩ : ∃ o, y + cc = o := ⟨_, rfl⟩
  rw [hcc, hy, ho] at hw
  rw [hw]
  rw [hy, ho] at eo bo
  have eS : IntKind.u64.wrap ((h : Int) * 2 ^ s) = (y : Int) := by rw [shlN, wrapM, hy, Nat.mod_eq_of_lt (by rw [← hy]; exact hlt)]
  have eR : (m : Int) / 2 ^ (64 - s) = (cc : Int) := by rw [shrN, hcc]
  have e3 : IntKind.i64.wrap (64 - (s : Int)) = 64 - (s : Int) := IntWalk.i64_in _ (by omega)
  have k1 : IntKind.i64.wrap ((k : Int) + 2 - 1) = (k : Int) + 1 := by rw [IntWalk.i64_in _ (by omega)]; omega
  have k2 : IntKind.i64.wrap (k : Int) = (k : Int) := IntWalk.i64_in _ (by omega)
  have atx : Hid (Calls Tryd.prog 76 #[.slice A n c, .int .i64 ((k : Int) + 1)] w.drew fun e w' => e = .returned (.int .u64 (h : Int)) ∧ w.drew = w') := hide (by
    have h := at_get B A n c xs (k + 1) h w.drew hx.drew (by unfold maxLen; omega) (hide hh)
    rwa [Int.natCast_succ] at h)
  have atz : Hid (Calls Tryd.prog 76 #[.slice A n c, .int .i64 (k : Int)] w.drew fun e w' => e = .returned (.int .u64 (m : Int)) ∧ w.drew = w') := hide (by
    exact at_get B A n c xs k m w.drew hx.drew (by unfold maxLen; omega) (hide hm))
  clear hx dx hw hm hh bm hcc bcc hlt hy ho
  go_enter Tryd.func91, Tryd.ntmps91
  go_wp2_with fail
  go_region_held3 (fun _ => True) (first | trivial | exact True.intro)
    (first
      | (go_at_call 76; (with_reducible refine atx.out.mono ?_); rintro e w' ⟨rfl, rfl⟩)
      | (go_at_call 76; (with_reducible refine atz.out.mono ?_); rintro e w' ⟨rfl, rfl⟩))
  all_goals
    go_wp2_with fail
    go_ret
    exact ⟨rfl, 1, rfl⟩
end Go.Proofs.YtkonakjchimniaaDoor
