
/-
  The reference of fractions: Sign, times, Div; Words, Copy, great.
-/
import Derived.Test.YtpfeacdhplbblaaGreatBundleG


namespace Go.Proofs.YtpfeacdhplbblaaGreat
open Go.RowKit Go.Proofs.YtpfeacdhplbblaaGreat.Num
set_option linter.unusedVariables false
set_option linter.unusedSimpArgs false
set_option maxRecDepth 100000
theorem Rf.split {w : World} {s : Bool} {A D : Option Addr} {n c m d : Nat} {r : Rat} {L : Nat} (h : Rf w (rv s (.slice A n c) (.slice D m d)) r L) : Qi w (zv s (.slice A n c)) r.num L ∧ Qi w (zv false (.slice D m d)) ((r.den : Nat) : Int) L := by
  obtain ⟨u, t, e, hu, ht⟩ := h
  injection e with e
  have e3 : s = decide (r.num < 0) ∧ Value.slice A n c = u ∧ Value.slice D m d = t := by simpa using e
  obtain ⟨rfl, rfl, rfl⟩ := e3
  refine ⟨⟨_, rfl, hu⟩, _, ?_, ht⟩
  rw [decide_eq_false (by omega)]
theorem qbox1 (w : World) (s : Bool) (A : Option Addr) (n c : Nat) :
    Below w.heap.size w (w.alloc (qbox s (.slice A n c))) ∧ Bx (w.alloc (qbox s (.slice A n c))) w.heap.size s A n c := by
  refine ⟨(Below.refl _ _).alloc (Nat.le_refl _) _, ⟨?_, ?_⟩⟩ <;> go_simp
set_option maxHeartbeats 2000000 in
theorem rqtimes_any {w : World} {v : Value} {D : Option Addr} {m d : Nat} {z q : Int} {L : Nat} (hv : Qi w v z L) (hu : Qi w (zv false (.slice D m d)) q L) (hL : L ≤ 400000000000) :
    Calls Tryz.prog 54 #[v, .slice D m d] w (QRet w (z * q) (L + L)) := by
  obtain ⟨s, x, A, n, c, rfl, -, -, -⟩ := id hv.parts
  obtain ⟨b1, p0, p1⟩ := qbox1 w s A n c
  have b2 : Below w.heap.size w ((w.alloc (qbox s (.slice A n c))).alloc qblk) := b1.alloc (by simp) _
  have z2 : Qb ((w.alloc (qbox s (.slice A n c))).alloc qblk) (w.heap.size + 1) := by have h := Qb.new (w.alloc (qbox s (.slice A n c))); simpa using h
  have MU := hide (qmul_any (hv.step b2) (hu.step b2) hL hL)
  have B := hide b2
  have Z := hide z2
  have HS := hide (show w.heap.size + 1 < ((w.alloc (qbox s (.slice A n c))).alloc qblk).heap.size by simp)
  have r0 := cell_keep p0 ((Below.refl _ _).alloc (Nat.le_refl _) qblk)
  have r1 := cell_keep p1 ((Below.refl _ _).alloc (Nat.le_refl _) qblk)
  clear hv hu b1 b2 z2 p0 p1
  go_enter Tryz.func54, Tryz.ntmps54
  go_wp2_with fail
  refine MU.out.mono ?_
  rintro e w1 ⟨v1, rfl, q1, bx⟩
  obtain ⟨sg, A1, n1, c1, rfl, k0, k1, f0, f1, fin⟩ := q_ret (w0 := w) q1 (Z.out.step HS.out bx) (by omega) (Below.step B.out B.out.size bx)
  have F := hide fin
  clear fin MU bx q1 B Z r0 r1
  go_wp2_with fail
  exact bodyPost_ret (qret rfl _ _ _ #[.bool sg, .slice A1 n1 c1] rfl rfl F.out.1) rfl F.out.2
set_option maxHeartbeats 2000000 in
theorem rwords_any {w : World} {s : Bool} {A D : Option Addr} {n c m d : Nat} (hn : n ≤ 17592186044000) (hm : m ≤ 17592186044000) :
    Calls Tryz.prog 6 #[rv s (.slice A n c) (.slice D m d)] w fun e w' => e = .returned (.int .i64 ((n + m : Nat) : Int)) ∧ Below w.heap.size w w' := by
  obtain ⟨b1, p0, p1, p2⟩ := fbox1 w s A n c D m d
  have hw : IntKind.i64.wrap ((n : Int) + (m : Int)) = ((n + m : Nat) : Int) := by rw [IntWalk.i64_in _ (by omega)]; omega
  have B := hide b1
  clear b1
  go_enter Tryz.func6, Tryz.ntmps6
  go_wp2_with fail
  go_ret
  exact ⟨by first | rw [hw] | rfl, B.out⟩
def Rl (w : World) (v : Value) (s : Bool) (xs ys : List Nat) (L : Nat) : Prop := ∃ u t, v = rv s u t ∧ Lw w u xs L ∧ Lw w t ys L
theorem Rl.ra {w : World} {v : Value} {s : Bool} {xs ys : List Nat} {L : Nat} (h : Rl w v s xs ys L) : Ra w v (mkRat (zi s (vl Q xs)) (dn (vl Q ys))) L := by
  obtain ⟨u, t, e, h1, h2⟩ := h
  exact ⟨s, u, t, _, _, e, h1.nw, h2.nw, rfl⟩
end Go.Proofs.YtpfeacdhplbblaaGreat
