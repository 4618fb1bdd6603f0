/-
  The example of chapter 8: it holds.
-/
import Derived.Test.YtinbeodihhjfmaaFld5
import Derived.Test.YtinbeodihhjfmaaFld6
namespace Go.Proofs.Ytinbeodihhjfmaa
open Go Go.RowKit Go.Shelf
set_option linter.unusedVariables false
set_option linter.unusedSimpArgs false
set_option maxRecDepth 100000

abbrev ex8 : Bs := [82, 79, 87, 83, 10, 32, 78, 32, 32, 99, 111, 115, 116, 13, 10, 42, 32, 120, 10, 10]
theorem ex8_bad : badAt 0 (lnsOf ex8) = none := by kernel_rfl
theorem ex8_good : good 0 (lnsOf ex8) = [⟨1, true, [⟨#[82, 79, 87, 83]⟩]⟩, ⟨2, false, [⟨#[78]⟩, ⟨#[99, 111, 115, 116]⟩]⟩] := by kernel_rfl
theorem ex8_len : (lnsOf ex8).length = 4 := by kernel_rfl

set_option maxHeartbeats 8000000 in
theorem speaks8 (w : World) : Calls Try.prog 5 #[] w fun e w' => e = .returned (.bool true) ∧ Below w.heap.size w w' := by
  have FC := hide (flines_f ex8 w (by decide))
  go_enter Try.func5, Try.ntmps5
  go_wp2_with fail
  refine FC.out.mono ?_
  rintro e w2 ⟨hb, (⟨h, -⟩ | ⟨-, (⟨k, h, -⟩ | ⟨-, v, d, rfl, hL, hd⟩)⟩)⟩
  · exact absurd h (by decide)
  · rw [ex8_bad] at h
    cases h
  · rw [ex8_good] at hd
    rw [ex8_len]
    have hlen : d.length = 2 := by have := congrArg List.length hd; simpa using this
    obtain ⟨x, y, rfl⟩ : ∃ x y, d = [x, y] := by
      match d, hlen with
      | [x, y], _ => exact ⟨x, y, rfl⟩
    simp only [List.map_cons, List.map_nil, Lx.ln, List.cons.injEq, Ln.mk.injEq, and_true] at hd
    obtain ⟨⟨x1, x2, x3⟩, y1, y2, y3⟩ := hd
    have hl := hL.lv
    rcases hL.1.form with ⟨_, e⟩ | ⟨g, cap, cur, rfl, hB, hlt, hh, h1, h2, h3, h4⟩
    · cases e
    · obtain ⟨b, off, e9, hb9, hx⟩ := hl.1.get (j := 0) (x := x) rfl
      obtain ⟨b', off', e8, hb8, hy⟩ := hl.1.get (j := 1) (x := y) rfl
      injection e9 with e9
      injection e9 with e91 e92
      injection e8 with e8
      injection e8 with e81 e82
      subst e91 e92 e81 e82
      have c0 := hx 0 _ rfl
      have c1 := hx 1 _ rfl
      have c2 := hy 0 _ rfl
      have c3 := hy 1 _ rfl
      have c4 := hy 2 _ rfl
      have hw := hl.2 y (by simp)
      rw [y3] at hw
      obtain ⟨⟨A1, n1, m1⟩, hwv⟩ : ∃ z, y.wv = z := ⟨_, rfl⟩
      rw [hwv] at hw c4
      have hn1 : n1 = 2 := by
        obtain ⟨A', c', e, _⟩ := hw
        injection e
      subst hn1
      obtain ⟨p, q, rfl, hp, hs⟩ := hw.get (j := 1) rfl
      have s0 := hs 0 _ rfl
      have c5 : w2.cell? ⟨g, 0 + 1 * 3 + 2, none⟩ = some (.slice (some ⟨p, q, none⟩) 2 m1) := c4
      rw [x1] at c0
      rw [x2] at c1
      rw [y1] at c2
      rw [y2] at c3
      simp only [Nat.zero_mul, Nat.one_mul, Nat.zero_add, Nat.add_zero] at c0 c1 c2 c3 c5 s0
      clear hx hy hs hl hh h4 hL FC c4
      go_wp2_with fail
      go_ret
      exact ⟨rfl, hb⟩
end Go.Proofs.Ytinbeodihhjfmaa
