/-
  Lists of fractions: whether two are one.
-/
import Derived.Test.YtajjpepjbflojaaGreatBundleG
import Derived.Deep.RegionHeld3


namespace Go.Proofs.YtajjpepjbflojaaGreat
open Go.RowKit Go.Proofs.YtajjpepjbflojaaGreat.Num
set_option linter.unusedVariables false
set_option linter.unusedSimpArgs false
set_option maxRecDepth 100000

/-- The j-th of the fractions in a block. -/
def RsAt (W : World) (g j : Nat) (r : Rat) (L : Nat) : Prop := ∃ s u t, W.cell? ⟨g, j * 3, none⟩ = some (.bool s) ∧ W.cell? ⟨g, j * 3 + 1, none⟩ = some u ∧ W.cell? ⟨g, j * 3 + 2, none⟩ = some t ∧ Rc W (rv s u t) r L
theorem RsAt.step {W W' : World} {g j : Nat} {r : Rat} {L : Nat} (h : RsAt W g j r L) (hb : Below W.heap.size W W') : RsAt W' g j r L := by
  obtain ⟨s, u, t, h0, h1, h2, h3⟩ := h
  exact ⟨s, u, t, cell_keep h0 hb, cell_keep h1 hb, cell_keep h2 hb, h3.step hb⟩

set_option maxHeartbeats 4000000 in
theorem sameall_true {w : World} {g h n c d L M : Nat} (R : Nat → Rat) (hg : ∀ j, j < n → RsAt w g j (R j) L) (hh : ∀ j, j < n → RsAt w h j (R j) M) (hn : n ≤ 1000000) :
    Calls Tryz.prog 31 #[.slice (some ⟨g, 0, none⟩) n c, .slice (some ⟨h, 0, none⟩) n d] w fun e w' => e = .returned (.bool true) ∧ Below w.heap.size w w' := by
  have HG := hide hg
  have HH := hide hh
  have e0 : ((n : Int) != (n : Int)) = false := by simp
  clear hg hh
  go_enter Tryz.func31, Tryz.ntmps31
  go_wp2_with fail
  go_loopw [5] (fun iv wr => ∃ k : Nat, k ≤ n ∧ iv = .int .i64 (k : Int) ∧ Below w.heap.size w wr) (fun iv _ => n - (intOf iv).toNat)
  case atStart => exact ⟨0, Nat.zero_le _, rfl, Below.refl _ _⟩
  case round =>
    obtain ⟨k, hk, rfl, hb⟩ := hrel
    by_cases hlt : k < n
    · have A := hide ((HG.out k hlt).step hb)
      have C := hide ((HH.out k hlt).step hb)
      have B := hide hb
      clear hb
      go_wp2_with fail
      have bx := Below.drew (Below.refl wr.heap.size wr)
      replace A := hide (A.out.step bx)
      replace C := hide (C.out.step bx)
      replace B := hide (Below.step B.out B.out.size bx)
      clear bx
      obtain ⟨s1, u1, t1, a0, a1, a2, ra⟩ := A.out
      obtain ⟨s2, u2, t2, c0, c1, c2, rc⟩ := C.out
      have RA := hide ra
      have RC := hide rc
      have l0 : (0 : Int) ≤ (k : Int) := by omega
      have l1 : (k : Int) < (n : Int) := by omega
      have P := hide (And.intro a0 (And.intro a1 (And.intro a2 (And.intro c0 (And.intro c1 c2)))))
      clear A C ra rc
      go_region_held3 (fun W => W.cell? ⟨g, k * 3, none⟩ = some (.bool s1) ∧ W.cell? ⟨g, k * 3 + 1, none⟩ = some u1 ∧ W.cell? ⟨g, k * 3 + 2, none⟩ = some t1 ∧ W.cell? ⟨h, k * 3, none⟩ = some (.bool s2) ∧ W.cell? ⟨h, k * 3 + 1, none⟩ = some u2 ∧ W.cell? ⟨h, k * 3 + 2, none⟩ = some t2)
        (exact P.out)
        (first
          | (go_at_call 37; refine Calls.mono (rsame_c RA.out RC.out) ?_; rintro e wx ⟨rfl, bx⟩; replace P := hide (And.intro (cell_keep P.out.1 bx) (And.intro (cell_keep P.out.2.1 bx) (And.intro (cell_keep P.out.2.2.1 bx) (And.intro (cell_keep P.out.2.2.2.1 bx) (And.intro (cell_keep P.out.2.2.2.2.1 bx) (cell_keep P.out.2.2.2.2.2 bx)))))); replace B := hide (Below.step B.out B.out.size bx)))
      all_goals
        clear P a0 a1 a2 c0 c1 c2 RA RC
        go_wp2_with fail
        exact ⟨⟨k + 1, by omega, by go_num, B.out⟩, by simp [intOf]; omega⟩
    · have B := hide hb
      clear hb
      go_wp2_with fail
      go_ret
      exact ⟨rfl, B.out⟩
end Go.Proofs.YtajjpepjbflojaaGreat
