/-
  tenTo: powers of ten.
-/
import Derived.Test.YtajjpepjbflojaaGreatDoorRtx4

namespace Go.Proofs.YtajjpepjbflojaaGreatDoor
open Go.RowKit Go.Proofs.YtajjpepjbflojaaGreatDoor.Num
set_option linter.unusedVariables false
set_option linter.unusedSimpArgs false
set_option maxRecDepth 100000

theorem ten_lt {m M : Nat} (h : m ≤ M) (h1 : 1 ≤ M) : 10 ^ m < Q ^ M := by
  have a : 10 ^ m ≤ 10 ^ M := Nat.pow_le_pow_right (by omega) h
  have b : 10 ^ M < Q ^ M := Nat.pow_lt_pow_left (by unfold Q; omega) (by omega)
  omega
theorem Zi.lets {w : World} {v : Value} {z : Int} {L : Nat} (h : Zi w v z L) : ∃ s A n c, v = zv s (.slice A n c) := by
  obtain ⟨s, u, x, rfl, hu, -⟩ := h.za
  obtain ⟨A, n, c, rfl⟩ := hu.slice
  exact ⟨s, A, n, c, rfl⟩

/-- A box as it stands. -/
def Zk (W : World) (g : Nat) (s : Bool) (u : Value) : Prop := W.heap[g]? = some (zbox s u)
theorem Zk.new (w : World) (s : Bool) (u : Value) : Zk (w.alloc (zbox s u)) w.heap.size s u := heap_alloc_new w _
theorem Zk.lt {W : World} {g : Nat} {s : Bool} {u : Value} (h : Zk W g s u) : g < W.heap.size := by unfold Zk at h; exact (Array.getElem?_eq_some_iff.1 h).1
theorem Zk.step {W W' : World} {g : Nat} {s : Bool} {u : Value} (h : Zk W g s u) (hb : Below W.heap.size W W') : Zk W' g s u := (hb.block g h.lt).trans h
theorem Zk.all {W : World} {g : Nat} {s : Bool} {u : Value} (h : Zk W g s u) : W.cell? ⟨g, 0, none⟩ = some (.bool s) ∧ W.cell? ⟨g, 1, none⟩ = some u ∧ W.frozen? ⟨g, 0, none⟩ = false ∧ W.frozen? ⟨g, 1, none⟩ = false :=
  ⟨cell_of_row W g 0 _ _ _ h, cell_of_row W g 1 _ _ _ h, frozen_of_row W g 0 _ _ h, frozen_of_row W g 1 _ _ h⟩
theorem Zk.put {W : World} {g : Nat} {s : Bool} {u : Value} (h : Zk W g s u) (s' : Bool) (u' : Value) : Zk ((W.setCell ⟨g, 0, none⟩ (.bool s')).setCell ⟨g, 1, none⟩ u') g s' u' := heap_setCell_same _ g 1 _ _ _ (heap_setCell_same W g 0 _ _ _ h)
/-- A number does not lie in a box whose first cell is a bool. -/
theorem Zk.ziset {W : World} {g : Nat} {s : Bool} {A : Option Addr} {n c : Nat} {v : Value} {z : Int} {L : Nat} (h : Zk W g s (.slice A n c)) (hz : Zi W v z L) (s' : Bool) (u' : Value) : Zi ((W.setCell ⟨g, 0, none⟩ (.bool s')).setCell ⟨g, 1, none⟩ u') v z L := by
  obtain ⟨u, e, B, k, e2, hr, h2⟩ := hz
  refine ⟨u, e, B, k, e2, ⟨hr.1, fun hn => ?_⟩, h2⟩
  obtain ⟨bb, off, e3, hb, hc⟩ := hr.2 hn
  refine ⟨bb, off, e3, by rw [World.size_setCell, World.size_setCell]; exact hb, fun j hj => ?_⟩
  have hne : bb ≠ g := by
    rintro rfl
    have h1 := hc 0 hn
    rw [Nat.add_zero, cell_of_row W bb off _ _ _ h] at h1
    match off, h1 with
    | 0, h1 => simp at h1
    | 1, h1 => simp at h1
    | (q + 2), h1 => simp at h1
  rw [World.cell?_setCell_other _ _ _ _ (by intro h2; apply hne; injection h2 with h3; exact h3.symm), World.cell?_setCell_other _ _ _ _ (by intro h2; apply hne; injection h2 with h3; exact h3.symm)]
  exact hc j hj
theorem Zb.off {W : World} {g h : Nat} (hz : Zb W g) (hne : g ≠ h) (a b : Value) : Zb ((W.setCell ⟨h, 0, none⟩ a).setCell ⟨h, 1, none⟩ b) g := hz.far hne a b

set_option maxHeartbeats 4000000 in
theorem tento_none (n : Int) (hn : n ≤ 0) (h0 : -9223372036854775808 ≤ n) (w : World) : Calls Tryz.prog 55 #[.int .i64 n] w (ZRet w 1 1) := by
  have B := hide ((Below.refl w.heap.size w).alloc (Nat.le_refl _) zblk)
  have Z := hide (Zb.new w)
  have t1 : decide (n ≤ 0) = true := decide_eq_true hn
  have OF := hide (fun W => zof_any W 1 (by omega) (by omega))
  go_enter Tryz.func55, Tryz.ntmps55
  go_wp2_with fail
  refine (OF.out _).mono ?_
  rintro e w1 ⟨v, rfl, z1, b1⟩
  obtain ⟨s, A, k, c, rfl⟩ := z1.lets
  obtain ⟨k0, k1, f0, f1, fin⟩ := zret_put (w0 := w) z1 (Z.out.step (by simp) b1) (Nat.le_refl _) (Below.step B.out B.out.size b1)
  have F := hide fin
  clear fin z1 b1 B Z OF
  go_wp2_with fail
  exact bodyPost_ret (zret (p := 2) rfl _ _ _ #[.bool s, .slice A k c] rfl rfl F.out.1) rfl F.out.2

set_option maxHeartbeats 4000000 in
theorem tento_step {m h M : Nat} (hM : 1 ≤ M) (hMb : M ≤ 1000) (hm : m ≤ M) (h0 : 0 < m) (hh : m / 2 = h) (IH : ∀ W : World, Calls Tryz.prog 55 #[.int .i64 (h : Int)] W (ZRet W ((10 ^ h : Nat) : Int) M)) (w : World) :
    Calls Tryz.prog 55 #[.int .i64 (m : Int)] w (ZRet w ((10 ^ m : Nat) : Int) M) := by
  have B := hide ((Below.refl w.heap.size w).alloc (Nat.le_refl _) zblk)
  have Z := hide (Zb.new w)
  have t1 : decide ((m : Int) ≤ 0) = false := decide_eq_false (by omega)
  have e2 : (m : Int) / 2 = (h : Int) := by omega
  have IHH := hide IH
  have l0 : (0 : Int) ≤ (m : Int) := by omega
  have l1 : (m : Int) ≤ 1000 := by omega
  obtain ⟨P, hP⟩ : ∃ P : Nat, 10 ^ h = P := ⟨_, rfl⟩
  have HP := hide (show (((P : Int)) * (P : Int)).natAbs < Q ^ M by
    rw [← Int.natCast_mul, Int.natAbs_natCast, ← hP, ← Nat.pow_add]
    exact ten_lt (by omega) hM)
  rw [hP] at IHH
  have HMb := hide hMb
  have OF := hide (fun W => zof_any W 10 (by omega) (by omega))
  have FE := hide (show (m % 2 = 0 → ((P : Int) * (P : Int)) = ((10 ^ m : Nat) : Int)) ∧ (m % 2 = 1 → ((P : Int) * (P : Int)) * 10 = ((10 ^ m : Nat) : Int)) by
    rw [← hP]
    constructor
    · intro hr
      rw [← Int.natCast_mul, ← Nat.pow_add, show h + h = m by omega]
    · intro hr
      have e : m = h + h + 1 := by omega
      rw [← Int.natCast_mul, ← Nat.pow_add, e, Nat.pow_succ, Int.natCast_mul]
      rfl)
  have HT := hide (show ((10 ^ m : Nat) : Int).natAbs < Q ^ M by rw [Int.natAbs_natCast]; exact ten_lt hm hM)
  generalize ((10 ^ m : Nat) : Int) = R at *
  clear hP IH hMb hM hm
  have hpar : m % 2 = 0 ∨ m % 2 = 1 := by omega
  go_enter Tryz.func55, Tryz.ntmps55
  go_wp2_with fail
  refine (IHH.out _).mono ?_
  rintro e w1 ⟨v1, rfl, z1, b1⟩
  obtain ⟨s1, A1, n1, c1, rfl⟩ := z1.lets
  have Z := hide (Z.out.step (by simp) b1)
  have B := hide (Below.step B.out B.out.size b1)
  obtain ⟨b2, x0, x1⟩ := boxT w1 24 s1 A1 n1 c1
  have V := hide (z1.step b2)
  have Z := hide (Z.out.step Z.out.lt b2)
  have B := hide (Below.step B.out B.out.size b2)
  clear z1 b1 b2 IHH
  go_wp2_with fail
  refine (zmul_a V.out.za V.out.za (by have := HMb.out; omega) (by have := HMb.out; omega) HP.out).mono ?_
  rintro e w2 ⟨v2, rfl, z2, b1⟩
  obtain ⟨s2, A2, n2, c2, rfl⟩ := z2.lets
  have Z := hide (Z.out.step Z.out.lt b1)
  have B := hide (Below.step B.out B.out.size b1)
  have HN := hide Z.out.lt
  obtain ⟨b2, y0, y1⟩ := boxT w2 24 s2 A2 n2 c2
  have V2 := hide (z2.step b2)
  have Z := hide (Z.out.step Z.out.lt b2)
  have B := hide (Below.step B.out B.out.size b2)
  have X2 := hide (Zk.new w2 s2 (.slice A2 n2 c2))
  clear z2 b1 b2 V x0 x1
  rcases hpar with hr | hr
  · have e3 : ((m : Int) % 2 == 1) = false := by rw [beq_eq_false_iff_ne]; omega
    have hv := FE.out.1 hr
    have V3 := hide (show Zi _ _ R M by rw [← hv]; exact V2.out)
    clear hr hv FE V2
    obtain ⟨k0, k1, f0, f1, fin⟩ := zret_put (w0 := w) V3.out Z.out (Nat.le_refl _) B.out
    have F := hide fin
    clear fin V3 Z B X2
    go_wp2_with fail
    exact bodyPost_ret (zret (p := 2) rfl _ _ _ #[.bool s2, .slice A2 n2 c2] rfl rfl F.out.1) rfl F.out.2
  · have e3 : ((m : Int) % 2 == 1) = true := by rw [beq_iff_eq]; omega
    have hv := FE.out.2 hr
    have HT2 := hide (show ((P : Int) * (P : Int) * 10).natAbs < Q ^ M by rw [hv]; exact HT.out)
    have HV := hide hv
    clear hr hv FE
    go_wp2_with fail
    generalize (w2.alloc (zbox s2 (.slice A2 n2 c2))) = w3 at *
    have bx := Below.drew (Below.refl w3.heap.size w3)
    replace y0 := cell_keep y0 bx
    replace y1 := cell_keep y1 bx
    have V2 := hide (V2.out.step bx)
    have Z := hide (Z.out.step Z.out.lt bx)
    have B := hide (Below.step B.out B.out.size bx)
    have X2 := hide (X2.out.step bx)
    clear bx
    go_region_with (first
      | (go_at_call 58; refine Calls.mono (OF.out _) ?_; rintro e w4 ⟨v4, rfl, z4, b4⟩; have q0 := cell_keep y0 b4; have q1 := cell_keep y1 b4)
      | (go_at_call 54; refine Calls.mono (zmul_a (a := (P : Int) * (P : Int)) (b := 10) (L := M) (M := 1) (V2.out.step b4).za z4.za (by have := HMb.out; omega) (by omega) HT2.out) ?_; rintro e wx ⟨v5, rfl, z5, b5⟩; obtain ⟨s5, A5, n5, c5, rfl⟩ := z5.lets; have bb := Below.step1 b4 b5; have X5 := hide (X2.out.step bb); obtain ⟨r0, r1, g0, g1⟩ := X5.out.all))
    all_goals
      have Z6 := Zb.off (Z.out.step Z.out.lt bb) (Nat.ne_of_lt HN.out) (.bool s5) (.slice A5 n5 c5)
      have V6 := X5.out.ziset z5 s5 (.slice A5 n5 c5)
      have B6 := ((Below.step B.out B.out.size bb).setCell (p := ⟨w2.heap.size, 0, none⟩) (Nat.le_of_lt HN.out) (.bool s5)).setCell (p := ⟨w2.heap.size, 1, none⟩) (Nat.le_of_lt HN.out) (.slice A5 n5 c5)
      obtain ⟨u0, u1, -, -⟩ := (X5.out.put s5 (.slice A5 n5 c5)).all
      rw [HV.out] at V6
      obtain ⟨k0, k1, f0, f1, fin⟩ := zret_put (w0 := w) V6 Z6 (Nat.le_refl _) B6
      have F := hide fin
      clear fin V6 Z6 B6 X5 X2 Z B V2 z4 z5 bb b4 b5 y0 y1 q0 q1 r0 r1 g0 g1 HV HT2 OF
      generalize ((wx.setCell ⟨w2.heap.size, 0, none⟩ (.bool s5)).setCell ⟨w2.heap.size, 1, none⟩ (.slice A5 n5 c5)) = w6 at *
      go_wp2_with fail
      exact bodyPost_ret (zret (p := 2) rfl _ _ _ #[.bool s5, .slice A5 n5 c5] rfl rfl F.out.1) rfl F.out.2

theorem tento_any {M : Nat} (hM : 1 ≤ M) (hMb : M ≤ 1000) : ∀ (m : Nat), m ≤ M → ∀ w : World, Calls Tryz.prog 55 #[.int .i64 (m : Int)] w (ZRet w ((10 ^ m : Nat) : Int) M) := by
  intro m
  induction m using Nat.strongRecOn with
  | ind m ih =>
    intro hm w
    rcases Nat.eq_zero_or_pos m with rfl | h0
    · exact (tento_none 0 (by omega) (by omega) w).mono fun e w' ⟨v, h1, h2, h3⟩ => ⟨v, h1, h2.more hM, h3⟩
    · exact tento_step hM hMb hm h0 rfl (ih (m / 2) (by omega) (by omega)) w
/-- At any whole number. -/
theorem tento_z {M : Nat} (hM : 1 ≤ M) (hMb : M ≤ 1000) (n : Int) (h0 : -1000 ≤ n) (h1 : n ≤ M) (w : World) : Calls Tryz.prog 55 #[.int .i64 n] w (ZRet w (10 ^ n.toNat) M) := by
  by_cases hn : n ≤ 0
  · rw [show n.toNat = 0 by omega, Int.pow_zero]
    exact (tento_none n hn (by omega) w).mono fun e w' ⟨v, h1, h2, h3⟩ => ⟨v, h1, h2.more hM, h3⟩
  · obtain ⟨m, rfl⟩ := Int.eq_ofNat_of_zero_le (show 0 ≤ n by omega)
    have h := tento_any hM hMb m (by omega) w
    rw [Int.natCast_pow] at h
    exact h
end Go.Proofs.YtajjpepjbflojaaGreatDoor
