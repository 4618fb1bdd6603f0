/-
  law02.great; the walk of ZintSmall: true.
-/
import Derived.Test.YtkonakjchimniaaDoorZrests

namespace Go.Proofs.YtkonakjchimniaaDoor
open Go.RowKit Go.Proofs.YtkonakjchimniaaDoor.Num
set_option linter.unusedVariables false
set_option maxRecDepth 100000

theorem boxT (w : World) (T : TypeId) (s : Bool) (A : Option Addr) (n c : Nat) :
    Below w.heap.size w (w.alloc (.cells #[.bool s, .slice A n c] T)) ∧ Bx (w.alloc (.cells #[.bool s, .slice A n c] T)) w.heap.size s A n c := by
  refine ⟨(Below.refl _ _).alloc (Nat.le_refl _) _, ⟨?_, ?_⟩⟩ <;> go_simp
theorem zgreat_no (s t : Bool) (A D : Option Addr) (n c m d : Nat) (w : World) (hn : n ≤ 12) (hm : m ≤ 12) :
    Calls Tryd.prog 24 #[zv s (.slice A n c), zv t (.slice D m d)] w fun e w' => e = .returned (.bool false) ∧ Below w.heap.size w w' := by
  obtain ⟨b2, y1, y2⟩ := box2 w s t A D n c m d
  have p1 := y1.2
  have p2 := y2.2
  have h1 : decide ((12 : Int) < (n : Int)) = false := decide_eq_false (by omega)
  have h2 : decide ((12 : Int) < (m : Int)) = false := decide_eq_false (by omega)
  have B := hide b2
  clear b2 y1 y2
  go_enter Tryd.func24, Tryd.ntmps24
  go_wp2_with fail
  go_ret
  exact ⟨rfl, B.out⟩
theorem zgreat_yes (s t : Bool) (A D : Option Addr) (n c m d : Nat) (w : World) (h : 12 < n ∨ 12 < m) :
    Calls Tryd.prog 24 #[zv s (.slice A n c), zv t (.slice D m d)] w fun e w' => e = .returned (.bool true) ∧ Below w.heap.size w w' := by
  obtain ⟨b2, y1, y2⟩ := box2 w s t A D n c m d
  have p1 := y1.2
  have p2 := y2.2
  have B := hide b2
  clear b2 y1 y2
  by_cases hn : 12 < n
  · have h1 : decide ((12 : Int) < (n : Int)) = true := decide_eq_true (by omega)
    go_enter Tryd.func24, Tryd.ntmps24
    go_wp2_with fail
    go_ret
    exact ⟨rfl, B.out⟩
  · have h1 : decide ((12 : Int) < (n : Int)) = false := decide_eq_false (by omega)
    have h2 : decide ((12 : Int) < (m : Int)) = true := decide_eq_true (by omega)
    go_enter Tryd.func24, Tryd.ntmps24
    go_wp2_with fail
    go_ret
    exact ⟨rfl, B.out⟩

theorem Lw.za {w : World} {s : Bool} {v : Value} {xs : List Nat} {x L : Nat} {a : Int} (h : Lw w v xs L) (hx : vl Q xs = x) (ha : zi s x = a) : Za w (zv s v) a L := ⟨s, v, x, rfl, by rw [← hx]; exact h.nw, ha⟩
theorem cmpZ_lt {a b : Int} (h : a < b) : cmpZ a b = -1 := by unfold cmpZ; rw [if_pos h]
theorem cmpZ_gt {a b : Int} (h : b < a) : cmpZ a b = 1 := by unfold cmpZ; rw [if_neg (by omega), if_pos h]
theorem cmpZ_same (a : Int) : cmpZ a a = 0 := by unfold cmpZ; rw [if_neg (by omega), if_neg (by omega)]

/-- What is known in each world of this walk. -/
def SmInv (w W : World) (g : Nat) (s t : Bool) (A D : Option Addr) (n c m d : Nat) (a : Int) : Prop :=
  Below w.heap.size w W ∧ Bx W w.heap.size s A n c ∧ Bx W g t D m d ∧ Qi W (zv t (.slice D m d)) a 60
theorem SmInv.step {w W W' : World} {g : Nat} {s t : Bool} {A D : Option Addr} {n c m d : Nat} {a : Int} (h : SmInv w W g s t A D n c m d a) (hb : Below W.heap.size W W') : SmInv w W' g s t A D n c m d a := by
  obtain ⟨h1, h2, h3, h4⟩ := h
  exact ⟨h1.trans (hb.mono h1.size), h2.step hb, h3.step hb, h4.step hb⟩
theorem SmInv.drew {w W : World} {g : Nat} {s t : Bool} {A D : Option Addr} {n c m d : Nat} {a : Int} (h : SmInv w W g s t A D n c m d a) : SmInv w W.drew g s t A D n c m d a := h.step (below_drewN (Below.refl _ _) 1)

set_option maxHeartbeats 16000000 in
theorem zsmall_true (w : World) (k : Int) (s : Bool) (u : Value) (x : Nat) (hk : (Lit.int .i64 k).wf = true) (hu : Nw w u x 17592186043904) :
    Calls Tryd.prog 7 #[.int .i64 k, zv s u] w fun e w' => e = .returned (.bool true) ∧ Below w.heap.size w w' := by
  obtain ⟨k1, k2⟩ : -9223372036854775808 ≤ k ∧ k ≤ 9223372036854775807 := by
    have h := bounds_i64 hk
    omega
  obtain ⟨xs, hx, hl⟩ := hu.lw
  obtain ⟨A, n, c, rfl, rx, dx, h1, h2, -⟩ := hl
  obtain ⟨a, ha⟩ : ∃ a, zi s x = a := ⟨_, rfl⟩
  obtain ⟨b1, y1⟩ := box1 w s A n c
  have hkk : toV k = .tuple #[.int .i64 k, .int .i64 0] := by unfold toV; rw [if_pos ⟨k1, k2⟩]
  have HKK := hide hkk
  have tk : (k != k) = false := by simp
  have B := hide b1
  have HK := hide (And.intro k1 k2)
  clear hkk hu
  by_cases hg : 12 < n
  · have HG := hide hg
    clear rx dx h1 h2 hx ha
    go_enter Tryd.func7, Tryd.ntmps7
    go_wp2_with fail
    refine (zspeaks_true _).mono ?_
    rintro e w1 ⟨rfl, b2⟩
    have Y1 := hide (y1.step b2)
    have B := hide (Below.step B.out B.out.size b2)
    clear b2 y1
    go_wp2_with fail
    refine (zof_any w1 k HK.out.1 HK.out.2).mono ?_
    rintro e w2 ⟨vx, rfl, zx, b2⟩
    obtain ⟨F, i, f, rfl, -⟩ := zx.lw (by omega)
    obtain ⟨r, hr⟩ : ∃ r, decide (k < 0) = r := ⟨_, rfl⟩
    rw [hr] at zx
    rw [hr]
    obtain ⟨b3, y3⟩ := boxT w2 39 r F i f
    have b4 := Below.step b2 b2.size b3
    have Y1 := hide (Y1.out.step b4)
    have B := hide (Below.step B.out B.out.size b4)
    have ZX := hide (zx.step b3)
    have q0 := y3.1
    have q1 := y3.2
    clear b2 b3 b4 y3 zx hr
    go_wp2_with fail
    generalize hw3 : w2.alloc (.cells #[.bool r, .slice F i f] 39) = w3 at *
    generalize w2.heap.size = g0 at *
    clear hw3
    refine (zto_any ZX.out.za (by omega)).mono ?_
    rw [HKK.out]
    rintro e w4 ⟨rfl, b2⟩
    have b2d : Below w3.heap.size w3 w4.drew := below_drewN b2 1
    have zx : Zi w4.drew (zv r (.slice F i f)) k 1 := ZX.out.step b2d
    have q0 : w4.drew.cell? ⟨g0, 0, none⟩ = some (.bool r) := cell_keep q0 b2d
    have q1 : w4.drew.cell? ⟨g0, 1, none⟩ = some (.slice F i f) := cell_keep q1 b2d
    have Y1 := hide (Y1.out.step b2d)
    have B := hide (Below.step B.out B.out.size b2d)
    clear b2 b2d ZX
    go_wp2_with fail
    go_region_held3 (fun W => W.cell? ⟨g0, 0, none⟩ = some (.bool r) ∧ W.cell? ⟨g0, 1, none⟩ = some (.slice F i f))
      (first | with_reducible exact ⟨q0, q1⟩ | (refine ⟨?_, ?_⟩ <;> (repeat (first | (with_reducible assumption) | (with_reducible refine cell_keep ?_ (by with_reducible assumption))))))
      (first
          | (go_at_call 40; refine Calls.mono (qsmall_any _ k HK.out.1 HK.out.2) ?_; rintro e wx ⟨vq, rfl, tx, bx⟩)
          | (go_at_call 31; refine Calls.mono (qto_any (z := k) (L := 6) ?_ (by omega)) ?_; (focus ((repeat (first | (with_reducible assumption) | (with_reducible refine Qi.step ?_ (by with_reducible assumption)))); done)); rintro e wx ⟨vx, rfl, tx, bx⟩)
          | (go_at_call 29; refine Calls.mono (zsame_i (z := k) (L := 1) (M := 6) ?_ ?_) ?_; (focus ((repeat (first | (with_reducible assumption) | (with_reducible refine Zi.step ?_ (by with_reducible assumption)))); done)); (focus ((repeat (first | (with_reducible assumption) | (with_reducible refine Zi.step ?_ (by with_reducible assumption)))); done)); rintro e wx ⟨rfl, bx⟩))
    have st : Below w4.drew.heap.size w4.drew wx := by
      (repeat (first | (with_reducible assumption) | (with_reducible refine Below.step1 ?_ (by with_reducible assumption))))
    have Y1 := hide (Y1.out.step st)
    have B := hide (Below.step B.out B.out.size st)
    clear st q0 q1 zx
    generalize wx = w5 at *
    have p0 := Y1.out.1
    have p1 := Y1.out.2
    go_wp2_with fail
    refine (zgreat_yes s s A A n c n c _ (.inl HG.out)).mono ?_
    rintro e w6 ⟨rfl, b2⟩
    have B := hide (Below.step B.out B.out.size b2)
    clear b2
    go_wp2_with fail
    go_ret
    exact ⟨rfl, B.out⟩
  · have HL : Hid (Lw w (.slice A n c) xs 12) := hide ⟨A, n, c, rfl, rx, dx, h1, h2, by omega⟩
    have HL := hide (HL.out.step b1)
    have HX := hide hx
    have HA := hide ha
    have HG : Hid (n ≤ 12) := hide (by omega)
    clear rx dx h1 h2 hx ha hg
    go_enter Tryd.func7, Tryd.ntmps7
    go_wp2_with fail
    refine (zspeaks_true _).mono ?_
    rintro e w1 ⟨rfl, b2⟩
    have Y1 := hide (y1.step b2)
    have B := hide (Below.step B.out B.out.size b2)
    have HL := hide (HL.out.step b2)
    clear b2 y1
    go_wp2_with fail
    refine (zof_any w1 k HK.out.1 HK.out.2).mono ?_
    rintro e w2 ⟨vx, rfl, zx, b2⟩
    obtain ⟨F, i, f, rfl, -⟩ := zx.lw (by omega)
    obtain ⟨r, hr⟩ : ∃ r, decide (k < 0) = r := ⟨_, rfl⟩
    rw [hr] at zx
    rw [hr]
    obtain ⟨b3, y3⟩ := boxT w2 39 r F i f
    have b4 := Below.step b2 b2.size b3
    have Y1 := hide (Y1.out.step b4)
    have B := hide (Below.step B.out B.out.size b4)
    have HL := hide (HL.out.step b4)
    have ZX := hide (zx.step b3)
    have q0 := y3.1
    have q1 := y3.2
    clear b2 b3 b4 y3 zx hr
    go_wp2_with fail
    generalize hw3 : w2.alloc (.cells #[.bool r, .slice F i f] 39) = w3 at *
    generalize w2.heap.size = g0 at *
    clear hw3
    refine (zto_any ZX.out.za (by omega)).mono ?_
    rw [HKK.out]
    rintro e w4 ⟨rfl, b2⟩
    have b2d : Below w3.heap.size w3 w4.drew := below_drewN b2 1
    have zx : Zi w4.drew (zv r (.slice F i f)) k 1 := ZX.out.step b2d
    have q0 : w4.drew.cell? ⟨g0, 0, none⟩ = some (.bool r) := cell_keep q0 b2d
    have q1 : w4.drew.cell? ⟨g0, 1, none⟩ = some (.slice F i f) := cell_keep q1 b2d
    have Y1 := hide (Y1.out.step b2d)
    have B := hide (Below.step B.out B.out.size b2d)
    have HL := hide (HL.out.step b2d)
    clear b2 b2d ZX
    go_wp2_with fail
    go_region_held3 (fun W => W.cell? ⟨g0, 0, none⟩ = some (.bool r) ∧ W.cell? ⟨g0, 1, none⟩ = some (.slice F i f))
      (first | with_reducible exact ⟨q0, q1⟩ | (refine ⟨?_, ?_⟩ <;> (repeat (first | (with_reducible assumption) | (with_reducible refine cell_keep ?_ (by with_reducible assumption))))))
      (first
          | (go_at_call 40; refine Calls.mono (qsmall_any _ k HK.out.1 HK.out.2) ?_; rintro e wx ⟨vq, rfl, tx, bx⟩)
          | (go_at_call 31; refine Calls.mono (qto_any (z := k) (L := 6) ?_ (by omega)) ?_; (focus ((repeat (first | (with_reducible assumption) | (with_reducible refine Qi.step ?_ (by with_reducible assumption)))); done)); rintro e wx ⟨vx, rfl, tx, bx⟩)
          | (go_at_call 29; refine Calls.mono (zsame_i (z := k) (L := 1) (M := 6) ?_ ?_) ?_; (focus ((repeat (first | (with_reducible assumption) | (with_reducible refine Zi.step ?_ (by with_reducible assumption)))); done)); (focus ((repeat (first | (with_reducible assumption) | (with_reducible refine Zi.step ?_ (by with_reducible assumption)))); done)); rintro e wx ⟨rfl, bx⟩))
    have st : Below w4.drew.heap.size w4.drew wx := by
      (repeat (first | (with_reducible assumption) | (with_reducible refine Below.step1 ?_ (by with_reducible assumption))))
    have Y1 := hide (Y1.out.step st)
    have B := hide (Below.step B.out B.out.size st)
    have HL := hide (HL.out.step st)
    clear st q0 q1 zx
    generalize wx = w5 at *
    have p0 := Y1.out.1
    have p1 := Y1.out.2
    go_wp2_with fail
    refine (zgreat_no s s A A n c n c _ HG.out HG.out).mono ?_
    rintro e w6 ⟨rfl, b2⟩
    have B := hide (Below.step B.out B.out.size b2)
    have HL := hide (HL.out.step b2)
    have Y1 := hide (Y1.out.step b2)
    clear b2 p0 p1
    have p0 := Y1.out.1
    have p1 := Y1.out.2
    go_wp2_with fail
    refine (zcopy_l (s := s) HL.out (by omega)).mono ?_
    rintro e w7 ⟨rv, rfl, lr, b2⟩
    have HR := hide (lr.za HX.out HA.out)
    have B := hide (Below.step B.out B.out.size b2)
    have HL := hide (HL.out.step b2)
    have Y1 := hide (Y1.out.step b2)
    clear b2 p0 p1 lr
    go_wp2_with fail
    refine (zto_any HR.out (by omega)).mono ?_
    rintro e w8 ⟨rfl, b2⟩
    have ZA := hide ((HL.out.step b2).za HX.out HA.out)
    have B := hide (Below.step B.out B.out.size b2)
    have Y1 := hide (Y1.out.step b2)
    have p0 := Y1.out.1
    have p1 := Y1.out.2
    clear b2 HR HL
    have hto : (∃ v1 v2 : Int, toV a = .tuple #[.int .i64 v1, .int .i64 v2]) := by unfold toV; split <;> exact ⟨_, _, rfl⟩
    obtain ⟨v1, v2, hto⟩ := hto
    rw [hto]
    go_wp2_with fail
    refine (qof_any ZA.out (by omega)).mono ?_
    rintro e w9 ⟨vz, rfl, qz, b2⟩
    obtain ⟨t, zz, D, m, d, rfl, -, -, -⟩ := id qz.parts
    obtain ⟨b3, y3⟩ := boxT w9 45 t D m d
    have b4 := Below.step b2 b2.size b3
    have inv : SmInv w (w9.alloc (.cells #[.bool t, .slice D m d] 45)) w9.heap.size s t A D n c m d a :=
      ⟨Below.step B.out B.out.size b4, Y1.out.step b4, y3, (qz.step b3).more (by omega)⟩
    have I := hide inv
    clear inv b2 b3 b4 y3 qz p0 p1 ZA B Y1
    go_wp2_with fail
    generalize w9.alloc (.cells #[.bool t, .slice D m d] 45) = w10 at *
    generalize w9.heap.size = g at *
    have hcase : (a < -9223372036854775808 ∧ v1 = 0 ∧ v2 = 1) ∨ (9223372036854775807 < a ∧ v1 = 0 ∧ v2 = 1) ∨ ((-9223372036854775808 ≤ a ∧ a ≤ 9223372036854775807) ∧ a = v1 ∧ v2 = 0) := by
      unfold toV at hto
      split at hto
      · rename_i h
        simp at hto
        omega
      · rename_i h
        simp at hto
        omega
    clear hto
    rcases hcase with ⟨hc, rfl, rfl⟩ | ⟨hc, rfl, rfl⟩ | ⟨hc, rfl, rfl⟩
    · have h1 : Hid (cmpZ a (-9223372036854775808) = -1) := hide (cmpZ_lt hc)
      obtain ⟨bel, ⟨p0, p1⟩, ⟨q0, q1⟩, qz⟩ := I.out.drew
      go_region_with (first
            | (go_at_call 40; refine Calls.mono (qsmall_any _ _ (by omega) (by omega)) ?_; rintro e wx ⟨vq, rfl, tx, bx⟩; have q2 := cell_keep q0 bx; have q3 := cell_keep q1 bx)
            | (go_at_call 41; refine Calls.mono (qcmp_any (a := a) (b := -9223372036854775808) (L := 60) (M := 6) (K := 60) ?_ ?_ (by omega) (by omega) (by omega)) ?_; (focus ((repeat (first | (with_reducible assumption) | (with_reducible refine Qi.step ?_ (by with_reducible assumption)))); done)); (focus ((repeat (first | (with_reducible assumption) | (with_reducible refine Qi.step ?_ (by with_reducible assumption)))); done)); rw [h1.out]; rintro e wx ⟨rfl, bx⟩))
      all_goals
        simp only [Act.put, List.setIfInBounds_toArray, List.set_cons_zero, List.set_cons_succ, List.getElem_toArray, List.getElem_cons_zero, List.getElem_cons_succ]
        have st : Below w10.drew.heap.size w10.drew wx := by
          (repeat (first | (with_reducible assumption) | (with_reducible refine Below.step1 ?_ (by with_reducible assumption))))
        have I := hide (I.out.drew.step st)
        clear st bel p0 p1 q0 q1 qz
        generalize wx = w11 at *
        have Fin := hide I.out.1
        clear I
        go_wp2_with fail
        go_ret
        exact ⟨rfl, Fin.out⟩
    · have h1 : Hid (cmpZ a (-9223372036854775808) = 1) := hide (cmpZ_gt (by omega))
      have h2 : Hid (cmpZ a 9223372036854775807 = 1) := hide (cmpZ_gt hc)
      obtain ⟨bel, ⟨p0, p1⟩, ⟨q0, q1⟩, qz⟩ := I.out.drew
      go_region_held3 (fun W => W.cell? ⟨g, 0, none⟩ = some (.bool t) ∧ W.cell? ⟨g, 1, none⟩ = some (.slice D m d))
        (first | with_reducible exact ⟨q0, q1⟩ | (refine ⟨?_, ?_⟩ <;> (repeat (first | (with_reducible assumption) | (with_reducible refine cell_keep ?_ (by with_reducible assumption))))))
        (first
            | (go_at_call 40; refine Calls.mono (qsmall_any _ _ (by omega) (by omega)) ?_; rintro e wx ⟨vq, rfl, tx, bx⟩)
            | (go_at_call 41; refine Calls.mono (qcmp_any (a := a) (b := -9223372036854775808) (L := 60) (M := 6) (K := 60) ?_ ?_ (by omega) (by omega) (by omega)) ?_; (focus ((repeat (first | (with_reducible assumption) | (with_reducible refine Qi.step ?_ (by with_reducible assumption)))); done)); (focus ((repeat (first | (with_reducible assumption) | (with_reducible refine Qi.step ?_ (by with_reducible assumption)))); done)); rw [h1.out]; rintro e wx ⟨rfl, bx⟩)
            | (go_at_call 41; refine Calls.mono (qcmp_any (a := a) (b := 9223372036854775807) (L := 60) (M := 6) (K := 60) ?_ ?_ (by omega) (by omega) (by omega)) ?_; (focus ((repeat (first | (with_reducible assumption) | (with_reducible refine Qi.step ?_ (by with_reducible assumption)))); done)); (focus ((repeat (first | (with_reducible assumption) | (with_reducible refine Qi.step ?_ (by with_reducible assumption)))); done)); rw [h2.out]; rintro e wx ⟨rfl, bx⟩))
      have st : Below w10.drew.heap.size w10.drew wx := by
        (repeat (first | (with_reducible assumption) | (with_reducible refine Below.step1 ?_ (by with_reducible assumption))))
      have I := hide (I.out.drew.step st)
      clear st bel p0 p1 q0 q1 qz
      generalize wx = w11 at *
      have Fin := hide I.out.1
      clear I
      go_wp2_with fail
      go_ret
      exact ⟨rfl, Fin.out⟩
    · have h1 : Hid (cmpZ a (-9223372036854775808) = if a = -9223372036854775808 then 0 else 1) := hide (by
        split
        · rename_i h; rw [h]; exact cmpZ_same _
        · exact cmpZ_gt (by omega))
      have h2 : Hid (cmpZ a 9223372036854775807 = if a = 9223372036854775807 then 0 else -1) := hide (by
        split
        · rename_i h; rw [h]; exact cmpZ_same _
        · exact cmpZ_lt (by omega))
      obtain ⟨o1, ho1⟩ : ∃ o : Int, (if a = -9223372036854775808 then (0 : Int) else 1) = o := ⟨_, rfl⟩
      obtain ⟨o2, ho2⟩ : ∃ o : Int, (if a = 9223372036854775807 then (0 : Int) else -1) = o := ⟨_, rfl⟩
      rw [ho1] at h1
      rw [ho2] at h2
      have t1 : decide (o1 < 0) = false := decide_eq_false (by rw [← ho1]; split <;> omega)
      have t2 : decide (0 < o2) = false := decide_eq_false (by rw [← ho2]; split <;> omega)
      have h3 : Hid (cmpZ a a = 0) := hide (cmpZ_same a)
      have HC := hide hc
      clear ho1 ho2 hc
      obtain ⟨bel, ⟨p0, p1⟩, ⟨q0, q1⟩, qz⟩ := I.out.drew
      go_region_held3 (fun W => W.cell? ⟨g, 0, none⟩ = some (.bool t) ∧ W.cell? ⟨g, 1, none⟩ = some (.slice D m d))
        (first | with_reducible exact ⟨q0, q1⟩ | (refine ⟨?_, ?_⟩ <;> (repeat (first | (with_reducible assumption) | (with_reducible refine cell_keep ?_ (by with_reducible assumption))))))
        (first
            | (go_at_call 40; refine Calls.mono (qsmall_any _ _ (by omega) (by omega)) ?_; rintro e wx ⟨vq, rfl, tx, bx⟩)
            | (go_at_call 41; refine Calls.mono (qcmp_any (a := a) (b := -9223372036854775808) (L := 60) (M := 6) (K := 60) ?_ ?_ (by omega) (by omega) (by omega)) ?_; (focus ((repeat (first | (with_reducible assumption) | (with_reducible refine Qi.step ?_ (by with_reducible assumption)))); done)); (focus ((repeat (first | (with_reducible assumption) | (with_reducible refine Qi.step ?_ (by with_reducible assumption)))); done)); rw [h1.out]; rintro e wx ⟨rfl, bx⟩)
            | (go_at_call 41; refine Calls.mono (qcmp_any (a := a) (b := 9223372036854775807) (L := 60) (M := 6) (K := 60) ?_ ?_ (by omega) (by omega) (by omega)) ?_; (focus ((repeat (first | (with_reducible assumption) | (with_reducible refine Qi.step ?_ (by with_reducible assumption)))); done)); (focus ((repeat (first | (with_reducible assumption) | (with_reducible refine Qi.step ?_ (by with_reducible assumption)))); done)); rw [h2.out]; rintro e wx ⟨rfl, bx⟩))
      have st : Below w10.drew.heap.size w10.drew wx := by
        (repeat (first | (with_reducible assumption) | (with_reducible refine Below.step1 ?_ (by with_reducible assumption))))
      have I := hide (I.out.drew.step st)
      clear st bel p0 p1 q0 q1 qz
      generalize wx = w11 at *
      go_wp2_with fail
      obtain ⟨bel, ⟨p0, p1⟩, ⟨q0, q1⟩, qz⟩ := I.out.drew
      go_region_held3 (fun W => W.cell? ⟨g, 0, none⟩ = some (.bool t) ∧ W.cell? ⟨g, 1, none⟩ = some (.slice D m d))
        (first | with_reducible exact ⟨q0, q1⟩ | (refine ⟨?_, ?_⟩ <;> (repeat (first | (with_reducible assumption) | (with_reducible refine cell_keep ?_ (by with_reducible assumption))))))
        (first
            | (go_at_call 40; refine Calls.mono (qsmall_any _ a HC.out.1 HC.out.2) ?_; rintro e wx ⟨vq, rfl, tx, bx⟩)
            | (go_at_call 41; refine Calls.mono (qcmp_any (a := a) (b := a) (L := 6) (M := 60) (K := 60) ?_ ?_ (by omega) (by omega) (by omega)) ?_; (focus ((repeat (first | (with_reducible assumption) | (with_reducible refine Qi.step ?_ (by with_reducible assumption)))); done)); (focus ((repeat (first | (with_reducible assumption) | (with_reducible refine Qi.step ?_ (by with_reducible assumption)))); done)); rw [h3.out]; rintro e wx ⟨rfl, bx⟩))
      have st : Below w11.drew.heap.size w11.drew wx := by
        (repeat (first | (with_reducible assumption) | (with_reducible refine Below.step1 ?_ (by with_reducible assumption))))
      have I := hide (I.out.drew.step st)
      clear st bel p0 p1 q0 q1 qz
      generalize wx = w12 at *
      have Fin := hide I.out.1
      clear I
      go_wp2_with fail
      go_ret
      exact ⟨rfl, Fin.out⟩
end Go.Proofs.YtkonakjchimniaaDoor
