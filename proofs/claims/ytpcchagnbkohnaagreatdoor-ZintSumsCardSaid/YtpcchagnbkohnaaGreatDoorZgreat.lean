/-
  law02.great.
-/
import Derived.Test.YtpcchagnbkohnaaGreatDoorBundleE

namespace Go.Proofs.YtpcchagnbkohnaaGreatDoor
open Go.RowKit Go.Proofs.YtpcchagnbkohnaaGreatDoor.Num
set_option linter.unusedVariables false
set_option linter.unusedSimpArgs false
set_option maxRecDepth 100000
theorem zgreat_no (s t : Bool) (A D : Option Addr) (n c m d : Nat) (w : World) (hn : n ≤ 12) (hm : m ≤ 12) :
    Calls Tryz.prog 8 #[zv s (.slice A n c), zv t (.slice D m d)] w fun e w' => e = .returned (.bool false) ∧ Below w.heap.size w w' := by
  obtain ⟨b2, y1, y2⟩ := box2 w s t A D n c m d
  have p1 := y1.2
  have p2 := y2.2
  have h1 : decide ((12 : Int) < (n : Int)) = false := decide_eq_false (by omega)
  have h2 : decide ((12 : Int) < (m : Int)) = false := decide_eq_false (by omega)
  have B := hide b2
  clear b2 y1 y2
  go_enter Tryz.func8, Tryz.ntmps8
  go_wp2_with fail
  go_ret
  exact ⟨rfl, B.out⟩
theorem zgreat_yes (s t : Bool) (A D : Option Addr) (n c m d : Nat) (w : World) (h : 12 < n ∨ 12 < m) :
    Calls Tryz.prog 8 #[zv s (.slice A n c), zv t (.slice D m d)] w fun e w' => e = .returned (.bool true) ∧ Below w.heap.size w w' := by
  obtain ⟨b2, y1, y2⟩ := box2 w s t A D n c m d
  have p1 := y1.2
  have p2 := y2.2
  have B := hide b2
  clear b2 y1 y2
  by_cases hn : 12 < n
  · have h1 : decide ((12 : Int) < (n : Int)) = true := decide_eq_true (by omega)
    go_enter Tryz.func8, Tryz.ntmps8
    go_wp2_with fail
    go_ret
    exact ⟨rfl, B.out⟩
  · have h1 : decide ((12 : Int) < (n : Int)) = false := decide_eq_false (by omega)
    have h2 : decide ((12 : Int) < (m : Int)) = true := decide_eq_true (by omega)
    go_enter Tryz.func8, Tryz.ntmps8
    go_wp2_with fail
    go_ret
    exact ⟨rfl, B.out⟩
end Go.Proofs.YtpcchagnbkohnaaGreatDoor
