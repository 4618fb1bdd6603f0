/-
  Whole numbers: whose memory the results of DivFloor are; law02.spoil.
-/
import Derived.Test.YtpcchagnbkohnaaGreatDoorBundleD
import Derived.Test.YtpcchagnbkohnaaGreatDoorBundleE
import Derived.Test.YtpcchagnbkohnaaGreatDoorBundleF


namespace Go.Proofs.YtpcchagnbkohnaaGreatDoor
open Go.RowKit Go.Proofs.YtpcchagnbkohnaaGreatDoor.Num
set_option linter.unusedVariables false
set_option linter.unusedSimpArgs false
set_option maxRecDepth 100000

theorem Own.zset {w : World} {B g : Nat} {v : Value} {xs : List Nat} (h : Own .u64 77 w B v xs) (hz : Zb w g) (a b : Value) : Own .u64 77 ((w.setCell ⟨g, 0, none⟩ a).setCell ⟨g, 1, none⟩ b) B v xs := by
  rcases h with h | ⟨k, cap, C, rfl, hB, hr, r⟩
  · exact .inl h
  · have hne : k ≠ g := by
      rintro rfl
      obtain ⟨cs, hh, -⟩ := hr
      have hz' : w.heap[k]? = some (.cells #[.bool false, .slice none 0 0] 24 (0, 0)) := hz
      rw [hz'] at hh
      injection hh with hh
      injection hh with h1 h2
      exact absurd h2 (by decide)
    exact .inr ⟨k, cap, C, rfl, hB, (hr.far (by exact hne) a).far (by exact hne) b, r⟩
/-- What DivFloor leaves: both results, each a list of the call's own. -/
def ZdOwn (w : World) (a b : Int) (K M : Nat) (e : Ending) (w' : World) : Prop :=
  ∃ s1 u1 s2 u2, e = .returned (.tuple #[zv s1 u1, zv s2 u2, .int .i64 0]) ∧ Zi w' (zv s1 u1) (zq a b) K ∧ Zi w' (zv s2 u2) (zr a b) M ∧
    Own .u64 77 w' w.heap.size u1 (cn Q (zq a b).natAbs) ∧ Own .u64 77 w' w.heap.size u2 (cn Q (zr a b).natAbs) ∧ (∀ g, u1.ownBlock = some g → u2.ownBlock ≠ some g) ∧ Below w.heap.size w w'
theorem two_fit_o {w0 w : World} {s1 s2 : Bool} {u1 u2 : Value} {x1 x2 K M g3 g4 : Nat} {a b : Int} (o1 : Own .u64 77 w w0.heap.size u1 (cn Q x1)) (o2 : Own .u64 77 w w0.heap.size u2 (cn Q x2)) (dj : ∀ g, u1.ownBlock = some g → u2.ownBlock ≠ some g)
    (h1 : Cw w u1 x1 K) (h2 : Cw w u2 x2 M) (z3 : Zb w g3) (z4 : Zb w g4) (hne : g4 ≠ g3) (hg3 : w0.heap.size ≤ g3) (hg4 : w0.heap.size ≤ g4)
    (hb : Below w0.heap.size w0 w) (e1 : zi s1 x1 = zq a b) (e2 : zi s2 x2 = zr a b) :
    ∃ t1 A1 n1 c1 t2 A2 n2 c2, u1 = .slice A1 n1 c1 ∧ u2 = .slice A2 n2 c2 ∧ Calls Tryz.prog 44 #[.bool s1, .slice A1 n1 c1] w (fun e w1 => e = .returned (zv t1 (.slice A1 n1 c1)) ∧ Below w.heap.size w w1 ∧
      Calls Tryz.prog 44 #[.bool s2, .slice A2 n2 c2] w1 (fun e w2 => e = .returned (zv t2 (.slice A2 n2 c2)) ∧ Below w1.heap.size w1 w2 ∧
        w2.cell? ⟨g3, 0, none⟩ = some (.bool false) ∧ w2.cell? ⟨g3, 1, none⟩ = some (.slice none 0 0) ∧ w2.frozen? ⟨g3, 0, none⟩ = false ∧ w2.frozen? ⟨g3, 1, none⟩ = false ∧
        ((w2.setCell ⟨g3, 0, none⟩ (.bool t1)).setCell ⟨g3, 1, none⟩ (.slice A1 n1 c1)).cell? ⟨g4, 0, none⟩ = some (.bool false) ∧ ((w2.setCell ⟨g3, 0, none⟩ (.bool t1)).setCell ⟨g3, 1, none⟩ (.slice A1 n1 c1)).cell? ⟨g4, 1, none⟩ = some (.slice none 0 0) ∧
        ((w2.setCell ⟨g3, 0, none⟩ (.bool t1)).setCell ⟨g3, 1, none⟩ (.slice A1 n1 c1)).frozen? ⟨g4, 0, none⟩ = false ∧ ((w2.setCell ⟨g3, 0, none⟩ (.bool t1)).setCell ⟨g3, 1, none⟩ (.slice A1 n1 c1)).frozen? ⟨g4, 1, none⟩ = false ∧
        ∀ w4, w4 = ((((w2.setCell ⟨g3, 0, none⟩ (.bool t1)).setCell ⟨g3, 1, none⟩ (.slice A1 n1 c1)).setCell ⟨g4, 0, none⟩ (.bool t2)).setCell ⟨g4, 1, none⟩ (.slice A2 n2 c2)) →
          w4.heap[g3]? = some (.cells #[.bool t1, .slice A1 n1 c1] 24 (0, 0)) ∧ w4.heap[g4]? = some (.cells #[.bool t2, .slice A2 n2 c2] 24 (0, 0)) ∧
          ZdOwn w0 a b K M (.returned (.tuple #[zv t1 (.slice A1 n1 c1), zv t2 (.slice A2 n2 c2), .int .i64 0])) w4)) := by
  have l3 : g3 < w.heap.size := Zb.lt z3
  have l4 : g4 < w.heap.size := Zb.lt z4
  obtain ⟨t1, A1, n1, c1, t2, A2, n2, c2, rfl, rfl, hc⟩ := two_fit h1 h2 z3 z4 hne hg3 hg4 hb e1 e2
  refine ⟨t1, A1, n1, c1, t2, A2, n2, c2, rfl, rfl, hc.mono fun e w1 ⟨he, hb1, hc2⟩ => ⟨he, hb1, hc2.mono fun e w2 ⟨he2, hb2, k0, k1, f0, f1, j0, j1, d0, d1, fin⟩ => ⟨he2, hb2, k0, k1, f0, f1, j0, j1, d0, d1, fun w4 hw4 => ?_⟩⟩⟩
  obtain ⟨p1, p2, q, r, e, hq, hr, hbel⟩ := fin w4 hw4
  injection e with e
  have e3 : zv t1 (.slice A1 n1 c1) = q ∧ zv t2 (.slice A2 n2 c2) = r := by
    injection e with e
    have e0 := congrArg (fun l : Array Value => l[0]?) e
    have e9 := congrArg (fun l : Array Value => l[1]?) e
    exact ⟨by simpa using e0, by simpa using e9⟩
  obtain ⟨rfl, rfl⟩ := e3
  have y3 := (z3.step l3 hb1).step (Nat.lt_of_lt_of_le l3 hb1.size) hb2
  have y4 := (z4.step l4 hb1).step (Nat.lt_of_lt_of_le l4 hb1.size) hb2
  have y4' := y4.far hne (.bool t1) (.slice A1 n1 c1)
  refine ⟨p1, p2, t1, _, t2, _, rfl, hq, hr, ?_, ?_, dj, hbel⟩
  · rw [← e1, zi_abs, hw4]; exact ((((o1.step hb1).step hb2).zset y3 _ _).zset y4' _ _)
  · rw [← e2, zi_abs, hw4]; exact ((((o2.step hb1).step hb2).zset y3 _ _).zset y4' _ _)

theorem own_lt {w : World} {B : Nat} {v : Value} {xs : List Nat} (h : Own .u64 77 w B v xs) : ∀ g, v.ownBlock = some g → g < w.heap.size := by
  rcases h with ⟨rfl, _⟩ | ⟨g', cap, C, rfl, hB, hr, _⟩
  · intro g h; simp [Value.ownBlock] at h
  · intro g h; simp [Value.ownBlock] at h; subst h; exact hr.lt
theorem own_ge {w : World} {B : Nat} {v : Value} {xs : List Nat} (h : Own .u64 77 w B v xs) : ∀ g, v.ownBlock = some g → B ≤ g := by
  rcases h with ⟨rfl, _⟩ | ⟨g', cap, C, rfl, hB, hr, _⟩
  · intro g h; simp [Value.ownBlock] at h
  · intro g h; simp [Value.ownBlock] at h; subst h; exact hB
theorem own_fresh {w : World} {B : Nat} {u v : Value} {xs : List Nat} (hu : ∀ g, u.ownBlock = some g → g < B) (h : Own .u64 77 w B v xs) : ∀ g, u.ownBlock = some g → v.ownBlock ≠ some g := fun g hg hv => by
  have := hu g hg
  have := own_ge h g hv
  omega

set_option maxHeartbeats 8000000 in
theorem zdiv_own {w : World} {u v : Value} {a b : Int} {L M K : Nat} (hu : Za w u a L) (hv : Za w v b M) (hb0 : b ≠ 0) (hL : L ≤ K) (hM : M ≤ K) (hK : K ≤ 17592186044000) :
    Calls Tryz.prog 35 #[u, v] w (ZdOwn w a b (K + 1) (K + 1)) := by
  obtain ⟨s, u, x, rfl, hu, rfl⟩ := hu
  obtain ⟨t, v, y, rfl, hv, rfl⟩ := hv
  obtain ⟨A, n, c, rfl⟩ := hu.slice
  obtain ⟨D, m, d, rfl⟩ := hv.slice
  have hy : 0 < y := by
    rcases Nat.eq_zero_or_pos y with h | h
    · subst h
      exact absurd (by unfold zi; cases t <;> rfl) hb0
    · exact h
  obtain ⟨a4, z3, z4, hsz, p0, p1, q0, q1⟩ := zdiv_world w s t A D n c m d
  have HU := hide (hu.step a4)
  have HV := hide (hv.step a4)
  have HA := hide a4
  have Z3 := hide z3
  have Z4 := hide z4
  have HSZ := hide hsz
  have HY := hide hy
  clear hu hv a4 z3 z4 hsz hb0 hy
  go_enter Tryz.func35, Tryz.ntmps35
  go_wp2_with fail
  generalize hW0 : (((w.alloc (zbox s (.slice A n c))).alloc (zbox t (.slice D m d))).alloc zblk).alloc zblk = W0 at *
  refine (ndivmod HU.out HV.out (by omega) HY.out).mono ?_
  rintro e w1 ⟨qv, rv, rfl, oq, or_, dj, cq, cr, b1⟩
  have OQ := hide (oq.mono HA.out.size)
  have OR := hide (or_.mono HA.out.size)
  have DJ := hide dj
  have HSA := hide HA.out.size
  clear oq or_ dj
  have CQ := hide cq
  have CR := hide cr
  have p0' := cell_keep p0 b1
  have q0' := cell_keep q0 b1
  have q1' := cell_keep q1 b1
  have HV1 := hide (HV.out.step b1)
  have HA1 := hide (HA.out.trans (b1.mono HA.out.size))
  have Z31 := hide (Z3.out.step (by have := HSZ.out; omega) b1)
  have Z41 := hide (Z4.out.step (by have := HSZ.out; omega) b1)
  have HS1 := hide (show w.heap.size + 4 ≤ w1.heap.size by have := HSZ.out; have := b1.size; omega)
  by_cases hst : s = t
  · subst hst
    have t0 : (s != s) = false := by simp
    obtain ⟨e1, e2⟩ := zq_same (s := s) (x := x) HY.out
    have p0d : w1.drew.cell? ⟨w.heap.size, 0, none⟩ = some (.bool s) := p0'
    have q0d : w1.drew.cell? ⟨w.heap.size + 1, 0, none⟩ = some (.bool s) := q0'
    have Z31d : Zb w1.drew (w.heap.size + 1 + 1) := Z31.out
    have Z41d : Zb w1.drew (w.heap.size + 1 + 1 + 1) := Z41.out
    have CQd : Cw w1.drew qv (x / y) (K + 1) := CQ.out.more (show L ≤ K + 1 by omega)
    have CRd : Cw w1.drew rv (x % y) (K + 1) := CR.out.more (show M ≤ K + 1 by omega)
    obtain ⟨t1, A1, n1, c1, t2, A2, n2, c2, rfl, rfl, hcall⟩ := two_fit_o (w0 := w) (w := w1.drew) (s1 := false) (s2 := s) (a := zi s x) (b := zi s y) (g3 := w.heap.size + 1 + 1) (g4 := w.heap.size + 1 + 1 + 1) (OQ.out.drewN 1) (OR.out.drewN 1) DJ.out CQd CRd Z31d Z41d (by omega) (by omega) (by omega) (below_drewN HA1.out 1) e1.symm e2.symm
    clear CQ CR cr cq b1 HU HV HA Z3 Z4 HSZ p0 p1 q0 q1 q1' hW0 HV1 Z31 Z41 HA1 e1 e2 CQd CRd Z31d Z41d
    go_wp2_with fail
    have H1 := hide hcall
    clear hcall
    go_wp2_with fail
    go_region_held3 (fun W => W.cell? ⟨w.heap.size, 0, none⟩ = some (.bool s) ∧ W.cell? ⟨w.heap.size + 1, 0, none⟩ = some (.bool s))
      (first
        | with_reducible exact ⟨p0d, q0d⟩
        | with_reducible exact ⟨cell_keep p0d b7, cell_keep q0d b7⟩
        | with_reducible exact ⟨cell_keep (cell_keep p0d b7) b8, cell_keep (cell_keep q0d b7) b8⟩
        | with_reducible exact ⟨cell_zset (cell_keep (cell_keep p0d b7) b8) (by simp <;> omega) _ _, cell_zset (cell_keep (cell_keep q0d b7) b8) (by simp <;> omega) _ _⟩
        | with_reducible exact ⟨cell_zset (cell_zset (cell_keep (cell_keep p0d b7) b8) (by simp <;> omega) _ _) (by simp <;> omega) _ _, cell_zset (cell_zset (cell_keep (cell_keep q0d b7) b8) (by simp <;> omega) _ _) (by simp <;> omega) _ _⟩)
      (first
        | (go_at_call 44; (with_reducible refine H1.out.mono ?_); rintro e w7 ⟨rfl, b7, hc2⟩; have H2 := hide hc2; clear hc2)
        | (go_at_call 44; (with_reducible refine H2.out.mono ?_); rintro e w8 ⟨rfl, b8, k0, k1, f0, f1, j0, j1, d0, d1, fin⟩))
    all_goals
      have F := hide (fin _ rfl)
      clear fin
      go_wp2_with fail
      exact bodyPost_ret (zret3 (p := 4) (q := 5) (r := 6) rfl _ _ (w.heap.size + 1 + 1) (w.heap.size + 1 + 1 + 1) #[.bool t1, .slice A1 n1 c1] #[.bool t2, .slice A2 n2 c2] rfl rfl rfl rfl F.out.1 F.out.2.1) rfl F.out.2.2
  · obtain ⟨A3, c3, hrv, -⟩ := id cr
    obtain ⟨lr, hlr⟩ : ∃ lr, Hid ((cn Q (x % y)).length = lr) := ⟨_, hide rfl⟩
    rw [hlr.out] at hrv
    have hsplit : (s = false ∧ t = true) ∨ (s = true ∧ t = false) := by cases s <;> cases t <;> simp at hst ⊢
    rcases hsplit with ⟨rfl, rfl⟩ | ⟨rfl, rfl⟩
    · by_cases hr0 : x % y = 0
      · obtain rfl : lr = 0 := by rw [← hlr.out, hr0, cn_zero]; rfl
        obtain ⟨e1, e2⟩ := zq_even (x := x) hst HY.out hr0
        have CR0 := CR.out
        rw [hr0] at CR0
        have OR0 := OR.out
        rw [hr0] at OR0
        have p0d : w1.drew.cell? ⟨w.heap.size, 0, none⟩ = some (.bool false) := p0'
        have q0d : w1.drew.cell? ⟨w.heap.size + 1, 0, none⟩ = some (.bool true) := q0'
        have Z31d : Zb w1.drew (w.heap.size + 1 + 1) := Z31.out
        have Z41d : Zb w1.drew (w.heap.size + 1 + 1 + 1) := Z41.out
        have CQd : Cw w1.drew qv (x / y) (K + 1) := CQ.out.more (show L ≤ K + 1 by omega)
        have CRd : Cw w1.drew rv 0 (K + 1) := CR0.more (show M ≤ K + 1 by omega)
        obtain ⟨t1, A1, n1, c1, t2, A2, n2, c2, rfl, hr2, hcall⟩ := two_fit_o (w0 := w) (w := w1.drew) (s1 := true) (s2 := true) (a := zi false x) (b := zi true y) (g3 := w.heap.size + 1 + 1) (g4 := w.heap.size + 1 + 1 + 1) (OQ.out.drewN 1) (OR0.drewN 1) DJ.out CQd CRd Z31d Z41d (by omega) (by omega) (by omega) (below_drewN HA1.out 1) e1.symm e2.symm
        rw [hrv] at hr2
        subst hrv
        cases hr2
        clear OR0 CQ CR cr cq b1 HU HV HA Z3 Z4 HSZ p0 p1 q0 q1 q1' hW0 HV1 Z31 Z41 HA1 e1 e2 CR0 hr0 hst CQd CRd Z31d Z41d
        go_wp2_with fail
        have H1 := hide hcall
        clear hcall
        go_wp2_with fail
        go_region_held3 (fun W => W.cell? ⟨w.heap.size, 0, none⟩ = some (.bool false) ∧ W.cell? ⟨w.heap.size + 1, 0, none⟩ = some (.bool true))
          (first
            | with_reducible exact ⟨p0d, q0d⟩
            | with_reducible exact ⟨cell_keep p0d b7, cell_keep q0d b7⟩
            | with_reducible exact ⟨cell_keep (cell_keep p0d b7) b8, cell_keep (cell_keep q0d b7) b8⟩
            | with_reducible exact ⟨cell_zset (cell_keep (cell_keep p0d b7) b8) (by simp <;> omega) _ _, cell_zset (cell_keep (cell_keep q0d b7) b8) (by simp <;> omega) _ _⟩
            | with_reducible exact ⟨cell_zset (cell_zset (cell_keep (cell_keep p0d b7) b8) (by simp <;> omega) _ _) (by simp <;> omega) _ _, cell_zset (cell_zset (cell_keep (cell_keep q0d b7) b8) (by simp <;> omega) _ _) (by simp <;> omega) _ _⟩)
          (first
            | (go_at_call 44; (with_reducible refine H1.out.mono ?_); rintro e w7 ⟨rfl, b7, hc2⟩; have H2 := hide hc2; clear hc2)
            | (go_at_call 44; (with_reducible refine H2.out.mono ?_); rintro e w8 ⟨rfl, b8, k0, k1, f0, f1, j0, j1, d0, d1, fin⟩))
        all_goals
          have F := hide (fin _ rfl)
          clear fin
          go_wp2_with fail
          exact bodyPost_ret (zret3 (p := 4) (q := 5) (r := 6) rfl _ _ (w.heap.size + 1 + 1) (w.heap.size + 1 + 1 + 1) #[.bool t1, .slice A1 n1 c1] #[.bool t2, .slice A3 0 c3] rfl rfl rfl rfl F.out.1 F.out.2.1) rfl F.out.2.2
      · have hlr0 : 0 < lr := by
          rw [← hlr.out]
          exact List.length_pos_iff.2 (fun h => hr0 ((cn_eq_nil Q_two).1 h))
        obtain ⟨e1, e2⟩ := zq_odd (x := x) hst HY.out hr0
        have hml : x % y ≤ y := Nat.le_of_lt (Nat.mod_lt _ HY.out)
        have HML := hide hml
        have E1 := hide e1
        have E2 := hide e2
        have CR' := hide (show Nw w1 (.slice A3 lr c3) (x % y) M by rw [← hrv]; exact CR.out.nw)
        subst hrv
        have ha : Below w1.heap.size w1 (w1.alloc (.cells #[.int .u64 1] 77)) := (Below.refl _ _).alloc (Nat.le_refl _) _
        have AD := hide (add_n (K := K) (CQ.out.nw.step ha) (one_lit w1) (by omega) (by omega) hL (show 1 ≤ K by
          rcases Nat.eq_zero_or_pos K with h | h
          · exfalso
            have h1 := HV1.out.lt
            have h2 := HY.out
            have h3 : M = 0 := by omega
            rw [h3, Nat.pow_zero] at h1
            omega
          · exact h))
        have HB := hide ha
        clear CQ cr cq b1 HU HV HA Z3 Z4 HSZ p0 p1 q0 q1 hW0 hr0 hst hml e1 e2 ha
        go_wp2_with fail
        refine AD.out.mono ?_
        rintro e w2 ⟨qv2, rfl, oq2, cq2, b2⟩
        have HQ2 := hide (own_lt oq2)
        have OQ2 := hide (oq2.mono (Nat.le_trans HA1.out.size HB.out.size))
        clear oq2
        have bb := HB.out.trans (b2.mono HB.out.size)
        have CQ2 := hide cq2
        have p02 := cell_keep p0' bb
        have q02 := cell_keep q0' bb
        have q12 := cell_keep q1' bb
        have HV2 := hide (HV1.out.step bb)
        have CR2 := hide (CR'.out.step bb)
        have HA2 := hide (HA1.out.trans (bb.mono HA1.out.size))
        have Z32 := hide (Z31.out.step (by have := HS1.out; omega) bb)
        have Z42 := hide (Z41.out.step (by have := HS1.out; omega) bb)
        have HS2 := hide (Nat.le_trans HS1.out bb.size)
        clear cq2 b2 bb AD HB HV1 CR CR' HA1 Z31 Z41 HS1 p0' q0' q1'
        go_wp2_with fail
        refine (sub_n HV2.out CR2.out (by omega) (by omega) HML.out).mono ?_
        rintro e w3 ⟨rv2, rfl, or3, cr3, b3⟩
        have b3d : Below w2.heap.size w2 w3.drew := below_drewN b3 1
        have p0d : w3.drew.cell? ⟨w.heap.size, 0, none⟩ = some (.bool false) := cell_keep p02 b3d
        have q0d : w3.drew.cell? ⟨w.heap.size + 1, 0, none⟩ = some (.bool true) := cell_keep q02 b3d
        have Z3d : Zb w3.drew (w.heap.size + 1 + 1) := Z32.out.step (by have := HS2.out; omega) b3d
        have Z4d : Zb w3.drew (w.heap.size + 1 + 1 + 1) := Z42.out.step (by have := HS2.out; omega) b3d
        have CQd : Cw w3.drew qv2 (x / y + 1) (K + 1) := CQ2.out.step b3d
        have CRd : Cw w3.drew rv2 (y - x % y) (K + 1) := cr3.more (show M ≤ K + 1 by omega)
        obtain ⟨t1, A1, n1, c1, t2, A2, n2, c2, rfl, rfl, hcall⟩ := two_fit_o (w0 := w) (w := w3.drew) (s1 := true) (s2 := true) (a := zi false x) (b := zi true y) (g3 := w.heap.size + 1 + 1) (g4 := w.heap.size + 1 + 1 + 1) (OQ2.out.step b3d) ((or3.mono HA2.out.size).drewN 1) (own_fresh HQ2.out or3) CQd CRd Z3d Z4d (by omega) (by omega) (by omega) (below_drewN (HA2.out.trans (b3.mono HA2.out.size)) 1) E1.out.symm E2.out.symm
        clear CQ2 p02 q02 q12 HV2 CR2 HA2 Z32 Z42 HS2 b3 b3d cr3 E1 E2 HML CQd CRd Z3d Z4d
        go_wp2_with fail
        have H1 := hide hcall
        clear hcall
        go_wp2_with fail
        go_region_held3 (fun W => W.cell? ⟨w.heap.size, 0, none⟩ = some (.bool false) ∧ W.cell? ⟨w.heap.size + 1, 0, none⟩ = some (.bool true))
          (first
            | with_reducible exact ⟨p0d, q0d⟩
            | with_reducible exact ⟨cell_keep p0d b7, cell_keep q0d b7⟩
            | with_reducible exact ⟨cell_keep (cell_keep p0d b7) b8, cell_keep (cell_keep q0d b7) b8⟩
            | with_reducible exact ⟨cell_zset (cell_keep (cell_keep p0d b7) b8) (by simp <;> omega) _ _, cell_zset (cell_keep (cell_keep q0d b7) b8) (by simp <;> omega) _ _⟩
            | with_reducible exact ⟨cell_zset (cell_zset (cell_keep (cell_keep p0d b7) b8) (by simp <;> omega) _ _) (by simp <;> omega) _ _, cell_zset (cell_zset (cell_keep (cell_keep q0d b7) b8) (by simp <;> omega) _ _) (by simp <;> omega) _ _⟩)
          (first
            | (go_at_call 44; (with_reducible refine H1.out.mono ?_); rintro e w7 ⟨rfl, b7, hc2⟩; have H2 := hide hc2; clear hc2)
            | (go_at_call 44; (with_reducible refine H2.out.mono ?_); rintro e w8 ⟨rfl, b8, k0, k1, f0, f1, j0, j1, d0, d1, fin⟩))
        all_goals
          have F := hide (fin _ rfl)
          clear fin
          go_wp2_with fail
          exact bodyPost_ret (zret3 (p := 4) (q := 5) (r := 6) rfl _ _ (w.heap.size + 1 + 1) (w.heap.size + 1 + 1 + 1) #[.bool t1, .slice A1 n1 c1] #[.bool t2, .slice A2 n2 c2] rfl rfl rfl rfl F.out.1 F.out.2.1) rfl F.out.2.2
    · by_cases hr0 : x % y = 0
      · obtain rfl : lr = 0 := by rw [← hlr.out, hr0, cn_zero]; rfl
        obtain ⟨e1, e2⟩ := zq_even (x := x) hst HY.out hr0
        have CR0 := CR.out
        rw [hr0] at CR0
        have OR0 := OR.out
        rw [hr0] at OR0
        have p0d : w1.drew.cell? ⟨w.heap.size, 0, none⟩ = some (.bool true) := p0'
        have q0d : w1.drew.cell? ⟨w.heap.size + 1, 0, none⟩ = some (.bool false) := q0'
        have Z31d : Zb w1.drew (w.heap.size + 1 + 1) := Z31.out
        have Z41d : Zb w1.drew (w.heap.size + 1 + 1 + 1) := Z41.out
        have CQd : Cw w1.drew qv (x / y) (K + 1) := CQ.out.more (show L ≤ K + 1 by omega)
        have CRd : Cw w1.drew rv 0 (K + 1) := CR0.more (show M ≤ K + 1 by omega)
        obtain ⟨t1, A1, n1, c1, t2, A2, n2, c2, rfl, hr2, hcall⟩ := two_fit_o (w0 := w) (w := w1.drew) (s1 := true) (s2 := false) (a := zi true x) (b := zi false y) (g3 := w.heap.size + 1 + 1) (g4 := w.heap.size + 1 + 1 + 1) (OQ.out.drewN 1) (OR0.drewN 1) DJ.out CQd CRd Z31d Z41d (by omega) (by omega) (by omega) (below_drewN HA1.out 1) e1.symm e2.symm
        rw [hrv] at hr2
        subst hrv
        cases hr2
        clear OR0 CQ CR cr cq b1 HU HV HA Z3 Z4 HSZ p0 p1 q0 q1 q1' hW0 HV1 Z31 Z41 HA1 e1 e2 CR0 hr0 hst CQd CRd Z31d Z41d
        go_wp2_with fail
        have H1 := hide hcall
        clear hcall
        go_wp2_with fail
        go_region_held3 (fun W => W.cell? ⟨w.heap.size, 0, none⟩ = some (.bool true) ∧ W.cell? ⟨w.heap.size + 1, 0, none⟩ = some (.bool false))
          (first
            | with_reducible exact ⟨p0d, q0d⟩
            | with_reducible exact ⟨cell_keep p0d b7, cell_keep q0d b7⟩
            | with_reducible exact ⟨cell_keep (cell_keep p0d b7) b8, cell_keep (cell_keep q0d b7) b8⟩
            | with_reducible exact ⟨cell_zset (cell_keep (cell_keep p0d b7) b8) (by simp <;> omega) _ _, cell_zset (cell_keep (cell_keep q0d b7) b8) (by simp <;> omega) _ _⟩
            | with_reducible exact ⟨cell_zset (cell_zset (cell_keep (cell_keep p0d b7) b8) (by simp <;> omega) _ _) (by simp <;> omega) _ _, cell_zset (cell_zset (cell_keep (cell_keep q0d b7) b8) (by simp <;> omega) _ _) (by simp <;> omega) _ _⟩)
          (first
            | (go_at_call 44; (with_reducible refine H1.out.mono ?_); rintro e w7 ⟨rfl, b7, hc2⟩; have H2 := hide hc2; clear hc2)
            | (go_at_call 44; (with_reducible refine H2.out.mono ?_); rintro e w8 ⟨rfl, b8, k0, k1, f0, f1, j0, j1, d0, d1, fin⟩))
        all_goals
          have F := hide (fin _ rfl)
          clear fin
          go_wp2_with fail
          exact bodyPost_ret (zret3 (p := 4) (q := 5) (r := 6) rfl _ _ (w.heap.size + 1 + 1) (w.heap.size + 1 + 1 + 1) #[.bool t1, .slice A1 n1 c1] #[.bool t2, .slice A3 0 c3] rfl rfl rfl rfl F.out.1 F.out.2.1) rfl F.out.2.2
      · have hlr0 : 0 < lr := by
          rw [← hlr.out]
          exact List.length_pos_iff.2 (fun h => hr0 ((cn_eq_nil Q_two).1 h))
        obtain ⟨e1, e2⟩ := zq_odd (x := x) hst HY.out hr0
        have hml : x % y ≤ y := Nat.le_of_lt (Nat.mod_lt _ HY.out)
        have HML := hide hml
        have E1 := hide e1
        have E2 := hide e2
        have CR' := hide (show Nw w1 (.slice A3 lr c3) (x % y) M by rw [← hrv]; exact CR.out.nw)
        subst hrv
        have ha : Below w1.heap.size w1 (w1.alloc (.cells #[.int .u64 1] 77)) := (Below.refl _ _).alloc (Nat.le_refl _) _
        have AD := hide (add_n (K := K) (CQ.out.nw.step ha) (one_lit w1) (by omega) (by omega) hL (show 1 ≤ K by
          rcases Nat.eq_zero_or_pos K with h | h
          · exfalso
            have h1 := HV1.out.lt
            have h2 := HY.out
            have h3 : M = 0 := by omega
            rw [h3, Nat.pow_zero] at h1
            omega
          · exact h))
        have HB := hide ha
        clear CQ cr cq b1 HU HV HA Z3 Z4 HSZ p0 p1 q0 q1 hW0 hr0 hst hml e1 e2 ha
        go_wp2_with fail
        refine AD.out.mono ?_
        rintro e w2 ⟨qv2, rfl, oq2, cq2, b2⟩
        have HQ2 := hide (own_lt oq2)
        have OQ2 := hide (oq2.mono (Nat.le_trans HA1.out.size HB.out.size))
        clear oq2
        have bb := HB.out.trans (b2.mono HB.out.size)
        have CQ2 := hide cq2
        have p02 := cell_keep p0' bb
        have q02 := cell_keep q0' bb
        have q12 := cell_keep q1' bb
        have HV2 := hide (HV1.out.step bb)
        have CR2 := hide (CR'.out.step bb)
        have HA2 := hide (HA1.out.trans (bb.mono HA1.out.size))
        have Z32 := hide (Z31.out.step (by have := HS1.out; omega) bb)
        have Z42 := hide (Z41.out.step (by have := HS1.out; omega) bb)
        have HS2 := hide (Nat.le_trans HS1.out bb.size)
        clear cq2 b2 bb AD HB HV1 CR CR' HA1 Z31 Z41 HS1 p0' q0' q1'
        go_wp2_with fail
        refine (sub_n HV2.out CR2.out (by omega) (by omega) HML.out).mono ?_
        rintro e w3 ⟨rv2, rfl, or3, cr3, b3⟩
        have b3d : Below w2.heap.size w2 w3.drew := below_drewN b3 1
        have p0d : w3.drew.cell? ⟨w.heap.size, 0, none⟩ = some (.bool true) := cell_keep p02 b3d
        have q0d : w3.drew.cell? ⟨w.heap.size + 1, 0, none⟩ = some (.bool false) := cell_keep q02 b3d
        have Z3d : Zb w3.drew (w.heap.size + 1 + 1) := Z32.out.step (by have := HS2.out; omega) b3d
        have Z4d : Zb w3.drew (w.heap.size + 1 + 1 + 1) := Z42.out.step (by have := HS2.out; omega) b3d
        have CQd : Cw w3.drew qv2 (x / y + 1) (K + 1) := CQ2.out.step b3d
        have CRd : Cw w3.drew rv2 (y - x % y) (K + 1) := cr3.more (show M ≤ K + 1 by omega)
        obtain ⟨t1, A1, n1, c1, t2, A2, n2, c2, rfl, rfl, hcall⟩ := two_fit_o (w0 := w) (w := w3.drew) (s1 := true) (s2 := false) (a := zi true x) (b := zi false y) (g3 := w.heap.size + 1 + 1) (g4 := w.heap.size + 1 + 1 + 1) (OQ2.out.step b3d) ((or3.mono HA2.out.size).drewN 1) (own_fresh HQ2.out or3) CQd CRd Z3d Z4d (by omega) (by omega) (by omega) (below_drewN (HA2.out.trans (b3.mono HA2.out.size)) 1) E1.out.symm E2.out.symm
        clear CQ2 p02 q02 q12 HV2 CR2 HA2 Z32 Z42 HS2 b3 b3d cr3 E1 E2 HML CQd CRd Z3d Z4d
        go_wp2_with fail
        have H1 := hide hcall
        clear hcall
        go_wp2_with fail
        go_region_held3 (fun W => W.cell? ⟨w.heap.size, 0, none⟩ = some (.bool true) ∧ W.cell? ⟨w.heap.size + 1, 0, none⟩ = some (.bool false))
          (first
            | with_reducible exact ⟨p0d, q0d⟩
            | with_reducible exact ⟨cell_keep p0d b7, cell_keep q0d b7⟩
            | with_reducible exact ⟨cell_keep (cell_keep p0d b7) b8, cell_keep (cell_keep q0d b7) b8⟩
            | with_reducible exact ⟨cell_zset (cell_keep (cell_keep p0d b7) b8) (by simp <;> omega) _ _, cell_zset (cell_keep (cell_keep q0d b7) b8) (by simp <;> omega) _ _⟩
            | with_reducible exact ⟨cell_zset (cell_zset (cell_keep (cell_keep p0d b7) b8) (by simp <;> omega) _ _) (by simp <;> omega) _ _, cell_zset (cell_zset (cell_keep (cell_keep q0d b7) b8) (by simp <;> omega) _ _) (by simp <;> omega) _ _⟩)
          (first
            | (go_at_call 44; (with_reducible refine H1.out.mono ?_); rintro e w7 ⟨rfl, b7, hc2⟩; have H2 := hide hc2; clear hc2)
            | (go_at_call 44; (with_reducible refine H2.out.mono ?_); rintro e w8 ⟨rfl, b8, k0, k1, f0, f1, j0, j1, d0, d1, fin⟩))
        all_goals
          have F := hide (fin _ rfl)
          clear fin
          go_wp2_with fail
          exact bodyPost_ret (zret3 (p := 4) (q := 5) (r := 6) rfl _ _ (w.heap.size + 1 + 1) (w.heap.size + 1 + 1 + 1) #[.bool t1, .slice A1 n1 c1] #[.bool t2, .slice A2 n2 c2] rfl rfl rfl rfl F.out.1 F.out.2.1) rfl F.out.2.2

/-! ### Written over -/
set_option maxHeartbeats 1000000 in
theorem zspoil_row (s : Bool) (g n c : Nat) (C : Array Value) (zs : List Nat) (w : World) (hr : Row .u64 77 w g 0 C zs) (hzn : zs.length = n) (hn : n ≤ maxLen) :
    Calls Tryz.prog 26 #[zv s (.slice (some ⟨g, 0, none⟩) n c)] w fun e w' => e = .returned (.tuple #[]) ∧ w.grownBy w' (some g) := by
  unfold maxLen at hn
  have Hz := hide hzn
  have hlt := hr.lt
  have hne : g ≠ w.heap.size := by omega
  obtain ⟨b1, y0, y1⟩ := box1 w s (some ⟨g, 0, none⟩) n c
  have hr1 := hr.alloc (zbox s (.slice (some ⟨g, 0, none⟩) n c))
  have hg1 : w.grownBy (w.alloc (zbox s (.slice (some ⟨g, 0, none⟩) n c))) (some g) := only_below (only_refl w (some g)) b1 (Nat.le_refl _)
  clear hzn hr b1
  go_enter Tryz.func26, Tryz.ntmps26
  go_wp2_with fail
  generalize hW : (w.alloc (zbox s (.slice (some ⟨g, 0, none⟩) n c))) = w1 at *
  clear hW hlt
  generalize w.heap.size = gb at *
  go_loopw [6] (fun iv wr => ∃ (k : Nat) (us : List Nat), k ≤ n ∧ iv = .int .i64 (k : Int) ∧ Hid (us.length = n) ∧ Row .u64 77 wr g 0 C us ∧ Bx wr gb s (some ⟨g, 0, none⟩) n c ∧ w.grownBy wr (some g)) (fun iv _ => n - (intOf iv).toNat)
  case atStart => exact ⟨0, zs, Nat.zero_le _, rfl, Hz, hr1, ⟨y0, y1⟩, hg1⟩
  case round =>
    obtain ⟨k, us, hk, rfl, hu, hrow, ⟨x0, x1⟩, hg⟩ := hrel
    by_cases hlt : k < n
    · have hkl : k < us.length := by rw [hu.out]; exact hlt
      obtain ⟨v0, hc⟩ : ∃ v0 : Int, wr.cell? ⟨g, 0 + k, none⟩ = some (.int .u64 v0) := ⟨_, hrow.cell hkl⟩
      have hf := hrow.frozen (0 + k)
      have hs := hrow.set_ hkl 238
      rw [Nat.zero_add] at hc hf hs
      have hg2 := only_set (p := ⟨g, k, none⟩) hg rfl (.int .u64 238)
      have hu2 : Hid ((us.set k 238).length = n) := hide (by rw [List.length_set]; exact hu.out)
      have hx0 : (wr.setCell ⟨g, k, none⟩ (.int .u64 238)).cell? ⟨gb, 0, none⟩ = some (.bool s) := by rw [World.cell?_setCell_other _ _ _ _ (by intro h; injection h with h; exact hne h)]; exact x0
      have hx1 : (wr.setCell ⟨g, k, none⟩ (.int .u64 238)).cell? ⟨gb, 1, none⟩ = some (.slice (some ⟨g, 0, none⟩) n c) := by rw [World.cell?_setCell_other _ _ _ _ (by intro h; injection h with h; exact hne h)]; exact x1
      have hx := hide (show Bx (wr.setCell ⟨g, k, none⟩ (.int .u64 238)) gb s (some ⟨g, 0, none⟩) n c from ⟨hx0, hx1⟩)
      clear hkl hrow hg hu hr1 hg1 hx0 hx1
      go_wp2_with fail
      go_roundw
      case rel => exact ⟨k + 1, _, by omega, by go_num, hu2, hs, hx.out, hg2⟩
      case measure => simp [intOf]; omega
    · obtain rfl : k = n := by omega
      clear hr1 hg1
      go_wp2_with fail
      go_end0
      exact ⟨rfl, hg⟩
theorem zspoil_nil (s : Bool) (c : Nat) (w : World) : Calls Tryz.prog 26 #[zv s (.slice none 0 c)] w fun e w' => e = .returned (.tuple #[]) ∧ Below w.heap.size w w' := by
  obtain ⟨b1, y0, y1⟩ := box1 w s none 0 c
  have B := hide b1
  clear b1
  go_enter Tryz.func26, Tryz.ntmps26
  go_wp2_with fail
  go_loop [6] (fun iv => iv = .int .i64 0) (fun _ => 0)
  case atStart => rfl
  case round =>
    subst hrel
    go_wp2_with fail
    go_end0
    exact ⟨rfl, B.out⟩
theorem zspoil_own {w : World} {B : Nat} {s : Bool} {v : Value} {zs : List Nat} (h : Own .u64 77 w B v zs) :
    Calls Tryz.prog 26 #[zv s v] w fun e w' => e = .returned (.tuple #[]) ∧ w.grownBy w' v.ownBlock := by
  rcases h with ⟨rfl, rfl⟩ | ⟨g, cap, C, rfl, hB, hr, hC, hm⟩
  · exact (zspoil_nil s 0 w).mono fun e w' ⟨he, hw⟩ => ⟨he, only_below (only_refl w _) hw (Nat.le_refl _)⟩
  · obtain ⟨cs, _, _, hl, _⟩ := id hr
    exact zspoil_row s g zs.length cap C zs w hr rfl (by omega)
end Go.Proofs.YtpcchagnbkohnaaGreatDoor
