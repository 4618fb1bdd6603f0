
/-
 The reference of fractions: Sign, times, Div; Words, Copy, great.
-/
import Derived.Test.YtnhlomphdighnaaGreatBundleG


namespace Go.Proofs.YtnhlomphdighnaaGreat
open Go.RowKit Go.Proofs.YtnhlomphdighnaaGreat.Num
set_option linter.unusedVariables false
set_option linter.unusedSimpArgs false
set_option maxRecDepth 100000
theorem Rf.split {w : World} {s : Bool} {A D : Option Addr} {n c m d : Nat} {r : Rat} {L : Nat} (h : Rf w (rv s (.slice A n c) (.slice D m d)) r L) : Qi w (zv s (.slice A n c)) r.num L ∧ Qi w (zv false (.slice D m d)) ((r.den : Nat) : Int) L := by
 obtain ⟨u, t, e, hu, ht⟩ := h
 injection e with e
 have e3 : s = decide (r.num < 0) ∧ Value.slice A n c = u ∧ Value.slice D m d = t := by simpa using e
 obtain ⟨rfl, rfl, rfl⟩ := e3
 refine ⟨⟨_, rfl, hu⟩, _, ?_, ht⟩
 rw [decide_eq_false (by omega)]
theorem qiden_ic {w : World} {t : Value} {q L : Nat} (h : Qi w (zv false t) ((q : Nat) : Int) L) : Ic w t q L := by
 obtain ⟨u, e, hu⟩ := h
 injection e with e
 have e2 : t = u := by have := congrArg (fun l : Array Value => l[1]?) e; simpa using this
 rw [e2]
 exact hu
theorem num_sign (r : Rat) : zsg r.num = cmpR r 0 := by
 have h := sign_mk r.num r.den (Nat.pos_of_ne_zero r.den_nz)
 rw [Rat.mkRat_self] at h
 exact h
theorem fqbox1 (w : World) (s : Bool) (A : Option Addr) (n c : Nat) (D : Option Addr) (m d : Nat) :
  Below w.heap.size w (w.alloc (fqbox s (.slice A n c) (.slice D m d))) ∧ Fx (w.alloc (fqbox s (.slice A n c) (.slice D m d))) w.heap.size s A n c D m d := by
 refine ⟨(Below.refl _ _).alloc (Nat.le_refl _) _, ?_, ?_, ?_⟩ <;> go_simp
theorem qbox1 (w : World) (s : Bool) (A : Option Addr) (n c : Nat) :
  Below w.heap.size w (w.alloc (qbox s (.slice A n c))) ∧ Bx (w.alloc (qbox s (.slice A n c))) w.heap.size s A n c := by
 refine ⟨(Below.refl _ _).alloc (Nat.le_refl _) _, ⟨?_, ?_⟩⟩ <;> go_simp
set_option maxHeartbeats 2000000 in
theorem rqsign_any {w : World} {v : Value} {r : Rat} {L : Nat} (h : Rf w v r L) :
  Calls Tryz.prog 76 #[v] w fun e w' => e = .returned (.int .i64 (cmpR r 0)) ∧ Below w.heap.size w w' := by
 obtain ⟨s, A, n, c, D, m, d, rfl, h⟩ := h.parts
 rw [← num_sign]
 obtain ⟨hq, -⟩ := h.split
 obtain ⟨b1, p0, p1, p2⟩ := fqbox1 w s A n c D m d
 have SG := hide (qsign_any (hq.step b1))
 have B := hide b1
 clear hq h b1
 go_enter Tryz.func76, Tryz.ntmps76
 go_wp2_with fail
 refine SG.out.mono ?_
 rintro e w1 ⟨rfl, bx⟩
 have B := hide (Below.step B.out B.out.size bx)
 clear SG bx p0 p1 p2
 go_wp2_with fail
 go_ret
 exact ⟨rfl, B.out⟩
set_option maxHeartbeats 2000000 in
theorem rqtimes_any {w : World} {v : Value} {D : Option Addr} {m d : Nat} {z q : Int} {L : Nat} (hv : Qi w v z L) (hu : Qi w (zv false (.slice D m d)) q L) (hL : L ≤ 400000000000) :
  Calls Tryz.prog 67 #[v, .slice D m d] w (QRet w (z * q) (L + L)) := by
 obtain ⟨s, x, A, n, c, rfl, -, -, -⟩ := id hv.parts
 obtain ⟨b1, p0, p1⟩ := qbox1 w s A n c
 have b2 : Below w.heap.size w ((w.alloc (qbox s (.slice A n c))).alloc qblk) := b1.alloc (by simp) _
 have z2 : Qb ((w.alloc (qbox s (.slice A n c))).alloc qblk) (w.heap.size + 1) := by have h := Qb.new (w.alloc (qbox s (.slice A n c))); simpa using h
 have MU := hide (qmul_any (hv.step b2) (hu.step b2) hL hL)
 have B := hide b2
 have Z := hide z2
 have HS := hide (show w.heap.size + 1 < ((w.alloc (qbox s (.slice A n c))).alloc qblk).heap.size by simp)
 have r0 := cell_keep p0 ((Below.refl _ _).alloc (Nat.le_refl _) qblk)
 have r1 := cell_keep p1 ((Below.refl _ _).alloc (Nat.le_refl _) qblk)
 clear hv hu b1 b2 z2 p0 p1
 go_enter Tryz.func67, Tryz.ntmps67
 go_wp2_with fail
 refine MU.out.mono ?_
 rintro e w1 ⟨v1, rfl, q1, bx⟩
 obtain ⟨sg, A1, n1, c1, rfl, k0, k1, f0, f1, fin⟩ := q_ret (w0 := w) q1 (Z.out.step HS.out bx) (by omega) (Below.step B.out B.out.size bx)
 have F := hide fin
 clear fin MU bx q1 B Z r0 r1
 go_wp2_with fail
 exact bodyPost_ret (qret rfl _ _ _ #[.bool sg, .slice A1 n1 c1] rfl rfl F.out.1) rfl F.out.2
theorem fq_world2 (w : World) (s t : Bool) (A D F H : Option Addr) (n c m d k f l h : Nat) :
  Below w.heap.size w (((w.alloc (fqbox s (.slice A n c) (.slice D m d))).alloc (fqbox t (.slice F k f) (.slice H l h))).alloc fqblk).drew ∧ Fb (((w.alloc (fqbox s (.slice A n c) (.slice D m d))).alloc (fqbox t (.slice F k f) (.slice H l h))).alloc fqblk).drew (w.heap.size + 1 + 1) ∧ Fx (((w.alloc (fqbox s (.slice A n c) (.slice D m d))).alloc (fqbox t (.slice F k f) (.slice H l h))).alloc fqblk).drew w.heap.size s A n c D m d ∧ Fx (((w.alloc (fqbox s (.slice A n c) (.slice D m d))).alloc (fqbox t (.slice F k f) (.slice H l h))).alloc fqblk).drew (w.heap.size + 1) t F k f H l h := by
 refine ⟨below_drewN ((((Below.refl _ _).alloc (Nat.le_refl _) _).alloc (by simp) _).alloc (by simp; omega) _) 1, ?_, ⟨?_, ?_, ?_⟩, ?_, ?_, ?_⟩
 ·have h9 := Fb.new ((w.alloc (fqbox s (.slice A n c) (.slice D m d))).alloc (fqbox t (.slice F k f) (.slice H l h)))
  have h2 : Fb (((w.alloc (fqbox s (.slice A n c) (.slice D m d))).alloc (fqbox t (.slice F k f) (.slice H l h))).alloc fqblk) (w.heap.size + 1 + 1) := by simpa using h9
  exact h2
 all_goals go_simp
set_option maxHeartbeats 2000000 in
theorem rwords_any {w : World} {s : Bool} {A D : Option Addr} {n c m d : Nat} (hn : n ≤ 17592186044000) (hm : m ≤ 17592186044000) :
  Calls Tryz.prog 53 #[rv s (.slice A n c) (.slice D m d)] w fun e w' => e = .returned (.int .i64 ((n + m : Nat) : Int)) ∧ Below w.heap.size w w' := by
 obtain ⟨b1, p0, p1, p2⟩ := fbox1 w s A n c D m d
 have hw : IntKind.i64.wrap ((n : Int) + (m : Int)) = ((n + m : Nat) : Int) := by rw [IntWalk.i64_in _ (by omega)]; omega
 have B := hide b1
 clear b1
 go_enter Tryz.func53, Tryz.ntmps53
 go_wp2_with fail
 go_ret
 exact ⟨by first | rw [hw] | rfl, B.out⟩
def Rl (w : World) (v : Value) (s : Bool) (xs ys : List Nat) (L : Nat) : Prop := ∃ u t, v = rv s u t ∧ Lw w u xs L ∧ Lw w t ys L
theorem Rl.ra {w : World} {v : Value} {s : Bool} {xs ys : List Nat} {L : Nat} (h : Rl w v s xs ys L) : Ra w v (mkRat (zi s (vl Q xs)) (dn (vl Q ys))) L := by
 obtain ⟨u, t, e, h1, h2⟩ := h
 exact ⟨s, u, t, _, _, e, h1.nw, h2.nw, rfl⟩
theorem Rl.parts {w : World} {v : Value} {s : Bool} {xs ys : List Nat} {L : Nat} (h : Rl w v s xs ys L) : ∃ A n c D m d, v = rv s (.slice A n c) (.slice D m d) ∧ Lw w (.slice A n c) xs L ∧ Lw w (.slice D m d) ys L ∧ Rl w (rv s (.slice A n c) (.slice D m d)) s xs ys L := by
 obtain ⟨u, t, rfl, h1, h2⟩ := h
 obtain ⟨A, n, c, rfl⟩ := h1.nw.slice
 obtain ⟨D, m, d, rfl⟩ := h2.nw.slice
 exact ⟨A, n, c, D, m, d, rfl, h1, h2, _, _, rfl, h1, h2⟩
end Go.Proofs.YtnhlomphdighnaaGreat
