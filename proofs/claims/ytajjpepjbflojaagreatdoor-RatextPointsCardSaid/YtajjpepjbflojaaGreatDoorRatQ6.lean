/-
  The reference of fractions: Neg, Floor, Ceil, Add, Sub, IsWhole.
-/
import Derived.Test.YtajjpepjbflojaaGreatDoorRatQ5
import Derived.Test.YtajjpepjbflojaaGreatDoorZrefG
import Derived.Test.YtajjpepjbflojaaGreatDoorRatM


namespace Go.Proofs.YtajjpepjbflojaaGreatDoor
open Go.RowKit Go.Proofs.YtajjpepjbflojaaGreatDoor.Num
set_option linter.unusedVariables false
set_option linter.unusedSimpArgs false
set_option maxRecDepth 100000

theorem floor_num (r : Rat) : zq r.num ((r.den : Nat) : Int) = r.floor := by
  have h := floor_mk r.num r.den (Nat.pos_of_ne_zero r.den_nz)
  rw [Rat.mkRat_self] at h
  exact h.symm
theorem add_num (a b : Rat) : mkRat (a.num * ((b.den : Nat) : Int) + b.num * ((a.den : Nat) : Int)) (a.den * b.den) = a + b := by
  have h := Rat.mkRat_add_mkRat a.num b.num a.den_nz b.den_nz
  rw [Rat.mkRat_self, Rat.mkRat_self] at h
  exact h.symm
theorem den_one (r : Rat) : r.den = 1 ↔ (r.floor : Rat) = r := by
  constructor
  · intro h
    have h1 := num_div r
    rw [h] at h1
    have h2 : (r.num : Rat) = r := by rw [← h1]; grind
    have h3 : r.floor = r.num := flo_eq (by rw [h2]; grind) (by rw [h2]; grind)
    rw [h3, h2]
  · intro h
    rw [← h]
    rfl
theorem lowest_q {w : World} {v t : Value} {z : Int} {y L : Nat} (hv : Qi w v z L) (ht : Ic w t y L) (hy : 0 < y) (h1 : 1 ≤ L) (hL : L ≤ 100000000000) :
    Calls Tryz.prog 25 #[v, t] w (RfRet w (mkRat z y) L) := by
  obtain ⟨u, rfl, hu⟩ := hv
  have h := lowest_any (s := decide (z < 0)) hu ht hy h1 hL
  rw [zi_num] at h
  exact h
theorem rf_neg {w : World} {sg : Bool} {u t : Value} {r : Rat} {L : Nat} (hu : Qi w (zv sg u) (-r.num) L) (ht : Ic w t r.den L) : Rf w (rv sg u t) (-r) L := by
  obtain ⟨u', e, hi⟩ := hu
  injection e with e
  have e2 : sg = decide (-r.num < 0) ∧ u = u' := by simpa using e
  obtain ⟨rfl, rfl⟩ := e2
  exact ⟨u, t, by rw [Rat.neg_num], by rw [Rat.neg_num]; exact hi, by rw [Rat.neg_den]; exact ht⟩
theorem fq_world1f (w : World) (s : Bool) (A D : Option Addr) (n c m d : Nat) :
    Below w.heap.size w ((w.alloc (fqbox s (.slice A n c) (.slice D m d))).alloc fqblk).drew ∧ Fb ((w.alloc (fqbox s (.slice A n c) (.slice D m d))).alloc fqblk).drew (w.heap.size + 1) ∧ Fx ((w.alloc (fqbox s (.slice A n c) (.slice D m d))).alloc fqblk).drew w.heap.size s A n c D m d := by
  refine ⟨below_drewN (((Below.refl _ _).alloc (Nat.le_refl _) _).alloc (by simp) _) 1, ?_, ?_, ?_, ?_⟩
  · have h := Fb.new (w.alloc (fqbox s (.slice A n c) (.slice D m d)))
    have h2 : Fb ((w.alloc (fqbox s (.slice A n c) (.slice D m d))).alloc fqblk) (w.heap.size + 1) := by simpa using h
    exact h2
  all_goals go_simp
theorem fq_world1q (w : World) (s : Bool) (A D : Option Addr) (n c m d : Nat) :
    Below w.heap.size w ((w.alloc (fqbox s (.slice A n c) (.slice D m d))).alloc qblk) ∧ Qb ((w.alloc (fqbox s (.slice A n c) (.slice D m d))).alloc qblk) (w.heap.size + 1) ∧ Fx ((w.alloc (fqbox s (.slice A n c) (.slice D m d))).alloc qblk) w.heap.size s A n c D m d ∧ w.heap.size + 1 < ((w.alloc (fqbox s (.slice A n c) (.slice D m d))).alloc qblk).heap.size := by
  refine ⟨((Below.refl _ _).alloc (Nat.le_refl _) _).alloc (by simp) _, ?_, ⟨?_, ?_, ?_⟩, ?_⟩
  · have h := Qb.new (w.alloc (fqbox s (.slice A n c) (.slice D m d)))
    simpa using h
  all_goals go_simp
theorem qbox2 (w : World) (s t : Bool) (A D : Option Addr) (n c m d : Nat) :
    Below w.heap.size w ((w.alloc (qbox s (.slice A n c))).alloc (qbox t (.slice D m d))) ∧ Bx ((w.alloc (qbox s (.slice A n c))).alloc (qbox t (.slice D m d))) w.heap.size s A n c := by
  refine ⟨((Below.refl _ _).alloc (Nat.le_refl _) _).alloc (by simp) _, ⟨?_, ?_⟩⟩ <;> go_simp
theorem iw_lit1 (w : World) : Iw (w.alloc (.cells #[.int .i64 1] 3)) (.slice (some ⟨w.heap.size, 0, none⟩) 1 1) 1 1 := (ic_one w (Nat.le_refl 1)).iw
theorem cmpN_one (x : Nat) : (cmpN x 1 == 0) = decide (x = 1) := by
  unfold cmpN
  rcases Nat.lt_trichotomy x 1 with h | h | h
  · rw [if_pos h, decide_eq_false (by omega)]; rfl
  · subst h; rfl
  · rw [if_neg (by omega), if_pos h, decide_eq_false (by omega)]; rfl
set_option maxHeartbeats 4000000 in
theorem rqwhole_any {w : World} {a : Value} {r : Rat} {L : Nat} (ha : Rf w a r L) (hL : L ≤ 10000000000) :
    Calls Tryz.prog 22 #[a] w fun e w' => e = .returned (.bool (decide ((r.floor : Rat) = r))) ∧ Below w.heap.size w w' := by
  obtain ⟨s, A, n, c, D, m, d, rfl, ha⟩ := ha.parts
  obtain ⟨b1, p0, p1, p2⟩ := fqbox1 w s A n c D m d
  have b2 : Below w.heap.size w ((w.alloc (fqbox s (.slice A n c) (.slice D m d))).alloc (.cells #[.int .i64 1] 3)) := b1.alloc (by simp) _
  have hc := icmp ((qiden_ic ha.split.2).step b2).iw (iw_lit1 (w.alloc (fqbox s (.slice A n c) (.slice D m d)))) (by omega) (by omega)
  simp only [World.size_alloc] at hc
  obtain ⟨o, ho⟩ : ∃ o, cmpN r.den 1 = o := ⟨_, rfl⟩
  have h1 := cmpN_one r.den
  rw [ho] at hc h1
  have hr : decide ((r.floor : Rat) = r) = (o == 0) := by rw [h1]; exact (decide_eq_decide.2 (den_one r)).symm
  rw [hr]
  have CM := hide hc
  have B := hide b2
  clear ha b1 b2 hc ho h1 hr
  go_enter Tryz.func22, Tryz.ntmps22
  go_wp2_with fail
  refine CM.out.mono ?_
  rintro e w3 ⟨rfl, rfl⟩
  clear CM p0 p1 p2
  go_wp2_with fail
  go_ret
  exact ⟨rfl, B.out⟩

set_option maxHeartbeats 2000000 in
theorem rsame_l {w : World} {u v : Value} {s : Bool} {xs ys : List Nat} {L M : Nat} (hu : Rl w u s xs ys L) (hv : Rl w v s xs ys M) :
    Calls Tryz.prog 12 #[u, v] w fun e w' => e = .returned (.bool true) ∧ Below w.heap.size w w' := by
  obtain ⟨A, n, c, D, m, d, rfl, a1, a2, -⟩ := hu.parts
  obtain ⟨F, k, f, H, l, h, rfl, c1, c2, -⟩ := hv.parts
  obtain ⟨b2, ⟨p0, p1, p2⟩, q0, q1, q2⟩ := f_world0 w s s A D F H n c m d k f l h
  have b3 : Below w.heap.size w ((w.alloc (rbox s (.slice A n c) (.slice D m d))).alloc (rbox s (.slice F k f) (.slice H l h))) := ((Below.refl _ _).alloc (Nat.le_refl _) _).alloc (by simp) _
  have C1 := hide (zsame_l (s := s) (a1.step b3) (c1.step b3))
  have N1 := hide (a2.step b3)
  have N2 := hide (c2.step b3)
  have B := hide b3
  have C : Hid (Fx ((w.alloc (rbox s (.slice A n c) (.slice D m d))).alloc (rbox s (.slice F k f) (.slice H l h))) w.heap.size s A n c D m d ∧ Fx ((w.alloc (rbox s (.slice A n c) (.slice D m d))).alloc (rbox s (.slice F k f) (.slice H l h))) (w.heap.size + 1) s F k f H l h) := hide ⟨⟨p0, p1, p2⟩, q0, q1, q2⟩
  clear b2 b3 a1 a2 c1 c2 p0 p1 p2 q0 q1 q2 hu hv
  go_enter Tryz.func12, Tryz.ntmps12
  go_wp2_with fail
  refine C1.out.mono ?_
  rintro e w1 ⟨rfl, b1⟩
  obtain ⟨p0, p1, p2⟩ := C.out.1.step b1
  obtain ⟨q0, q1, q2⟩ := C.out.2.step b1
  have B1 := hide (Below.step B.out B.out.size b1)
  have C2 := hide (same_l (N1.out.step b1) (N2.out.step b1))
  clear C1 N1 N2 B C b1
  go_wp2_with fail
  refine C2.out.mono ?_
  rintro e w2 ⟨rfl, b2⟩
  have B2 := hide (Below.step B1.out B1.out.size b2)
  clear C2 B1 b2 p0 p1 p2 q0 q1 q2
  go_wp2_with fail
  go_ret
  exact ⟨rfl, B2.out⟩
end Go.Proofs.YtajjpepjbflojaaGreatDoor
