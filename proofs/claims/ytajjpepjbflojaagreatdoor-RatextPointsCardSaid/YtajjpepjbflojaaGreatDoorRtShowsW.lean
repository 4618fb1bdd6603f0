/-
  The walk of RatextShows: true.
-/
import Derived.Test.YtajjpepjbflojaaGreatDoorRtx9

namespace Go.Proofs.YtajjpepjbflojaaGreatDoor
open Go.RowKit Go.Proofs.YtajjpepjbflojaaGreatDoor.Num
set_option linter.unusedVariables false
set_option linter.unusedSimpArgs false
set_option maxRecDepth 100000

theorem Nw.openL {w : World} {A : Option Addr} {n c x L : Nat} (h : Nw w (.slice A n c) x L) : ∃ xs, vl Q xs = x ∧ ∀ M, n ≤ M → Lw w (.slice A n c) xs M := by
  obtain ⟨A', n', c', xs, e, h1, h2, h3, h4, h5, h6⟩ := h
  cases e
  exact ⟨xs, h5, fun M hM => ⟨A, n, c, rfl, h1, h2, h3, h4, hM⟩⟩
theorem Nw.short {w : World} {A : Option Addr} {n c x L : Nat} (h : Nw w (.slice A n c) x L) : n ≤ L := by
  obtain ⟨A', n', c', xs, e, h1, h2, h3, h4, h5, h6⟩ := h
  cases e
  exact h6
theorem wbox (w : World) (s : Bool) (u t : Value) : Below w.heap.size w (w.alloc (rbox s u t)) := (Below.refl _ _).alloc (Nat.le_refl _) _

set_option maxHeartbeats 8000000 in
theorem rshows_true (w : World) (s : Bool) (ua ta : Value) (xa ya : Nat) (hua : Nw w ua xa 17592186043904) (hva : Nw w ta ya 17592186043904) (he : Ev w) :
    Calls Tryz.prog 3 #[rv s ua ta] w fun e w' => e = .returned (.bool true) ∧ Below w.heap.size w w' := by
  obtain ⟨A, n, c, rfl⟩ := hua.slice
  obtain ⟨D, m, d, rfl⟩ := hva.slice
  have b0 := wbox w s (.slice A n c) (.slice D m d)
  have E := hide (he.step b0)
  have K := hide (Rk.new w s (.slice A n c) (.slice D m d))
  have B := hide b0
  have WD := hide (fun W => rwords_any (w := W) (s := s) (A := A) (D := D) (c := c) (d := d) (Nat.le_trans hua.short (by omega)) (Nat.le_trans hva.short (by omega)))
  obtain ⟨xs, hxs, hx⟩ := hua.openL
  obtain ⟨ys, hys, hy⟩ := hva.openL
  have HL : Hid (¬ (12 < n + m) → Rl (w.alloc (rbox s (.slice A n c) (.slice D m d))) (rv s (.slice A n c) (.slice D m d)) s xs ys 12) := hide (fun h => ⟨_, _, rfl, (hx 12 (by omega)).step b0, (hy 12 (by omega)).step b0⟩)
  obtain ⟨k, hk⟩ : ∃ k, n + m = k := ⟨_, rfl⟩
  rw [hk] at WD HL
  clear hua hva he b0 hx hy hxs hys hk
  go_enter Tryz.func3, Tryz.ntmps3
  go_wp2_with fail
  refine (tspeaks_true _ E.out).mono ?_
  rintro e w1 ⟨rfl, bx⟩
  replace K := hide (K.out.step bx)
  replace B := hide (Below.step B.out B.out.size bx)
  by_cases hg : 12 < k
  · have t1 : decide ((12 : Int) < (k : Int)) = true := decide_eq_true (by omega)
    clear bx hg HL E
    obtain ⟨p0, p1, p2, -, -, -⟩ := K.out.all
    go_wp2_with fail
    refine (WD.out _).mono ?_
    rintro e w2 ⟨rfl, bx⟩
    replace B := hide (Below.step B.out B.out.size bx)
    clear bx WD K p0 p1 p2
    go_wp2_with fail
    go_ret
    exact ⟨rfl, B.out⟩
  · have t1 : decide ((12 : Int) < (k : Int)) = false := decide_eq_false (by omega)
    have R := hide ((HL.out hg).step bx)
    clear bx hg HL E
    obtain ⟨p0, p1, p2, -, -, -⟩ := K.out.all
    go_wp2_with fail
    refine (WD.out _).mono ?_
    rintro e w2 ⟨rfl, bx⟩
    replace B := hide (Below.step B.out B.out.size bx)
    replace K := hide (K.out.step bx)
    replace R := hide (R.out.step bx)
    clear bx WD p0 p1 p2
    obtain ⟨p0, p1, p2, -, -, -⟩ := K.out.all
    go_wp2_with fail
    refine (rcopy_l R.out (by omega)).mono ?_
    rintro e w3 ⟨vx, rfl, rx, bx⟩
    obtain ⟨Ax, nx, cx, Dx, mx, dx, rfl, -, -, -⟩ := rx.parts
    have b4 := wbox w3 s (.slice Ax nx cx) (.slice Dx mx dx)
    have bb := Below.step1 bx b4
    replace B := hide (Below.step B.out B.out.size bb)
    replace K := hide (K.out.step bb)
    replace R := hide (R.out.step bb)
    have RX := hide (rx.step b4)
    have KX := hide (Rk.new w3 s (.slice Ax nx cx) (.slice Dx mx dx))
    clear rx bx bb b4 p0 p1 p2
    go_wp2_with fail
    generalize (w3.alloc (rbox s (.slice Ax nx cx) (.slice Dx mx dx))) = w4 at *
    have bx := Below.drew (Below.refl w4.heap.size w4)
    replace B := hide (Below.step B.out B.out.size bx)
    replace K := hide (K.out.step bx)
    replace KX := hide (KX.out.step bx)
    replace R := hide (R.out.step bx)
    replace RX := hide (RX.out.step bx)
    clear bx
    obtain ⟨p0, p1, p2, -, -, -⟩ := K.out.all
    obtain ⟨q0, q1, q2, -, -, -⟩ := KX.out.all
    obtain ⟨r, hr⟩ : ∃ r, mkRat (zi s (vl Q xs)) (dn (vl Q ys)) = r := ⟨_, rfl⟩
    have RA : Hid (∀ W v, Rl W v s xs ys 12 → Ra W v r 12) := hide (fun W v h => by rw [← hr]; exact h.ra)
    clear hr
    have P := hide (And.intro p0 (And.intro p1 (And.intro p2 (And.intro q0 (And.intro q1 q2)))))
    go_region_held3 (fun W => W.cell? ⟨w.heap.size, 0, none⟩ = some (.bool s) ∧ W.cell? ⟨w.heap.size, 1, none⟩ = some (.slice A n c) ∧ W.cell? ⟨w.heap.size, 2, none⟩ = some (.slice D m d) ∧ W.cell? ⟨w3.heap.size, 0, none⟩ = some (.bool s) ∧ W.cell? ⟨w3.heap.size, 1, none⟩ = some (.slice Ax nx cx) ∧ W.cell? ⟨w3.heap.size, 2, none⟩ = some (.slice Dx mx dx))
      (exact P.out)
      (first
        | (go_at_call 9; refine Calls.mono (rtext_r (r := r) (L := 12) (RA.out _ _ RX.out) (by omega) (by omega)) ?_; rintro e wx ⟨S1, rfl, hS, bx⟩; replace P := hide (And.intro (cell_keep P.out.1 bx) (And.intro (cell_keep P.out.2.1 bx) (And.intro (cell_keep P.out.2.2.1 bx) (And.intro (cell_keep P.out.2.2.2.1 bx) (And.intro (cell_keep P.out.2.2.2.2.1 bx) (cell_keep P.out.2.2.2.2.2 bx)))))); replace R := hide (R.out.step bx); replace RX := hide (RX.out.step bx); replace B := hide (Below.step B.out B.out.size bx))
        | (go_at_call 11; refine Calls.mono (rof_r (r := r) (L := 12) (RA.out _ _ R.out) (by omega) (by omega)) ?_; rintro e wx ⟨vq, rfl, tq, bx⟩; replace P := hide (And.intro (cell_keep P.out.1 bx) (And.intro (cell_keep P.out.2.1 bx) (And.intro (cell_keep P.out.2.2.1 bx) (And.intro (cell_keep P.out.2.2.2.1 bx) (And.intro (cell_keep P.out.2.2.2.2.1 bx) (cell_keep P.out.2.2.2.2.2 bx)))))); replace R := hide (R.out.step bx); replace RX := hide (RX.out.step bx); replace B := hide (Below.step B.out B.out.size bx))
        | (go_at_call 10; refine Calls.mono (qtext_r (r := r) (L := 5 * 12) tq (by omega)) ?_; rintro e wx ⟨S2, rfl, hS2, bx⟩; have t9 : (S1.toList == S2.toList) = true := (by rw [toList_data, toList_data, hS.out, hS2.out]; exact beq_self_eq_true _); replace P := hide (And.intro (cell_keep P.out.1 bx) (And.intro (cell_keep P.out.2.1 bx) (And.intro (cell_keep P.out.2.2.1 bx) (And.intro (cell_keep P.out.2.2.2.1 bx) (And.intro (cell_keep P.out.2.2.2.2.1 bx) (cell_keep P.out.2.2.2.2.2 bx)))))); replace R := hide (R.out.step bx); replace RX := hide (RX.out.step bx); replace B := hide (Below.step B.out B.out.size bx))
        | (go_at_call 12; refine Calls.mono (rsame_l RX.out R.out) ?_; rintro e wx ⟨rfl, bx⟩; replace P := hide (And.intro (cell_keep P.out.1 bx) (And.intro (cell_keep P.out.2.1 bx) (And.intro (cell_keep P.out.2.2.1 bx) (And.intro (cell_keep P.out.2.2.2.1 bx) (And.intro (cell_keep P.out.2.2.2.2.1 bx) (cell_keep P.out.2.2.2.2.2 bx)))))); replace B := hide (Below.step B.out B.out.size bx)))
    all_goals
      go_wp2_with fail
      go_ret
      exact ⟨rfl, B.out⟩
end Go.Proofs.YtajjpepjbflojaaGreatDoor
