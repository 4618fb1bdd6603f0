/-
  nat.DivMod: exact, for all lists of words.
-/
import Derived.Test.YtkonakjchimniaaDoorLong3
import Derived.Test.YtkonakjchimniaaDoorDivMod
namespace Go.Proofs.YtkonakjchimniaaDoor
open Go.RowKit Go.Proofs.YtkonakjchimniaaDoor.Num
set_option linter.unusedVariables false
set_option maxRecDepth 100000

theorem top_of_tz {zs : List Nat} {m : Nat} (hidem : tz zs = zs) (hm : zs.length = m + 1) : zs.getD m 0 ≠ 0 := by
  intro h
  have h1 := tz_step_zero zs m (by omega) h
  rw [List.take_of_length_le (by omega), hidem] at h1
  have h2 := congrArg List.length h1
  have h3 := tz_length_le (zs.take m)
  rw [List.length_take] at h3
  omega

set_option maxHeartbeats 2000000 in
theorem divmod_long (A D : Option Addr) (n c m d p : Nat) (xs ys : List Nat) (w : World) (hx : Rd .u64 w w.heap.size A n xs) (hy : Rd .u64 w w.heap.size D m ys)
    (dx : Dg Q xs) (dy : Dg Q ys) (hnc : n ≤ c) (hc : c ≤ maxLen) (hmd : m ≤ d) (hd : d ≤ maxLen) (hn : n ≤ 17592186044000) (h1 : (tz ys).length = p + 1) (hp : 1 ≤ p) (hle : p + 1 ≤ (tz xs).length) :
    Calls Tryd.prog 13 #[.slice A n c, .slice D m d] w (DivRet 71 w (vl Q xs) (vl Q ys)) := by
  obtain ⟨A', c', hpc, hcm, hx', -, cx⟩ := clip_get _ A n c xs w hx hnc hc
  obtain ⟨D', d', hqd, hdm, hy', -, cy⟩ := clip_get _ D m d ys w hy hmd hd
  have lx := tz_length_le xs
  have hx1 := hx.1
  rw [h1] at hy' cy
  have hlong := divLong_any A' D' (tz xs).length c' p d' (tz xs) (tz ys) w hx' hy' (tz_dg dx) (tz_dg dy) hp hle (by omega) (top_of_tz (tz_idem ys) h1)
  rw [tz_vl, tz_vl] at hlong
  have hpos : Hid (0 < vl Q ys) := hide (by
    have h := pos_of_tz (tz_idem ys) (by omega) (tz_dg dy)
    rw [tz_vl] at h
    exact Nat.lt_of_lt_of_le (Nat.pow_pos Q_pos) h)
  obtain ⟨X, hX⟩ : ∃ X, Hid (vl Q xs = X) := ⟨_, hide rfl⟩
  obtain ⟨Y, hY⟩ : ∃ Y, Hid (vl Q ys = Y) := ⟨_, hide rfl⟩
  rw [hX.out, hY.out] at hlong ⊢
  rw [hY.out] at hpos
  obtain ⟨la, hla⟩ : ∃ la, (tz xs).length = la := ⟨_, rfl⟩
  rw [hla] at hlong cx hpc hle lx
  have hfin : Hid (∀ e w1, DlRet 71 w (la - p) (la + 1) X Y e w1 → ∃ qv rv q r, e = .returned (.tuple #[qv, rv]) ∧
      (Calls Tryd.prog 50 #[qv] w1 fun e w' => e = .returned q ∧ w1 = w') ∧ (Calls Tryd.prog 50 #[rv] w1 fun e w' => e = .returned r ∧ w1 = w') ∧
      DivRet 71 w X Y (.returned (.tuple #[q, r, .int .i64 0])) w1) := hide (by
    rintro e w1 ⟨g, h, us, vs, he, hg, hgh, hul, hvl, du, dv, hq, hr, hrq, hrr, hb⟩
    have o1 := Own.of_row hrq hg (size_madeCells ..) (by simp [maxLen]; omega)
    have o2 := Own.of_row hrr (Nat.le_trans hg (Nat.le_of_lt hgh)) (size_madeCells ..) (by simp [maxLen]; omega)
    obtain ⟨q, oq, bq, cq⟩ := clip_own _ _ _ _ o1
    obtain ⟨r, or, br, cr⟩ := clip_own _ _ _ _ o2
    rw [hul] at cq bq
    rw [hvl] at cr br
    rw [← cn_vl Q_two du, hq] at oq
    rw [← cn_vl Q_two dv, hr] at or
    refine ⟨_, _, q, r, he, cq, cr, fun h0 => absurd hpos.out (by omega), fun _ => ⟨q, r, rfl, oq, or, fun g1 h1 h2 => ?_⟩, hb⟩
    rcases bq with h3 | h3
    · rw [h3] at h1; cases h1
    · rcases br with h4 | h4
      · rw [h4] at h2; cases h2
      · rw [h3] at h1
        rw [h4] at h2
        simp [Value.ownBlock] at h1 h2
        omega)
  have b0 : (((p : Int) + 1) == 0) = false := beq_eq_false_iff_ne.2 (by omega)
  have b1 : (((p : Int) + 1) == 1) = false := beq_eq_false_iff_ne.2 (by omega)
  have hlt' : ¬ (la < p + 1) := by omega
  have b2 : decide ((la : Int) < (p : Int) + 1) = false := decide_eq_false (by omega)
  have Hlong := hide hlong
  clear hx hy hx' hy' dx dy hnc hc hmd hd hpc hcm hqd hdm hn h1 hX hY hla hlong hx1 lx hpos
  go_enter Tryd.func13, Tryd.ntmps13
  go_wp2_with (first
    | (go_at_call 50; (with_reducible refine cx.mono ?_); rintro e w' ⟨rfl, rfl⟩)
    | (go_at_call 50; (with_reducible refine cy.mono ?_); rintro e w' ⟨rfl, rfl⟩))
  refine Hlong.out.mono ?_
  intro e w1 hret
  obtain ⟨qv, rv, q, r, rfl, cq, cr, fin⟩ := hfin.out e w1 hret
  clear hfin hret Hlong
  go_wp2_with fail
  refine cq.mono ?_
  rintro e w_ ⟨rfl, rfl⟩
  go_wp2_with fail
  refine cr.mono ?_
  rintro e w_ ⟨rfl, rfl⟩
  go_wp2_with fail
  go_ret3
  exact fin

theorem divmod_any (A D : Option Addr) (n c m d : Nat) (xs ys : List Nat) (w : World) (hx : Rd .u64 w w.heap.size A n xs) (hy : Rd .u64 w w.heap.size D m ys)
    (dx : Dg Q xs) (dy : Dg Q ys) (hnc : n ≤ c) (hc : c ≤ maxLen) (hmd : m ≤ d) (hd : d ≤ maxLen) (hn : n ≤ 17592186044000) :
    Calls Tryd.prog 13 #[.slice A n c, .slice D m d] w (DivRet 71 w (vl Q xs) (vl Q ys)) := by
  rcases Nat.eq_zero_or_pos (tz ys).length with h0 | h0
  · exact divmod_zero A D n c m d xs ys w hx hy dx dy hnc hc hmd hd h0
  · rcases Nat.lt_or_ge (tz xs).length (tz ys).length with h1 | h1
    · exact divmod_less A D n c m d xs ys w hx hy dx dy hnc hc hmd hd hn h1
    · by_cases h2 : (tz ys).length = 1
      · exact divmod_word A D n c m d xs ys w hx hy dx dy hnc hc hmd hd hn h2 (by omega)
      · obtain ⟨p, hp⟩ : ∃ p, (tz ys).length = p + 1 := ⟨(tz ys).length - 1, by omega⟩
        exact divmod_long A D n c m d p xs ys w hx hy dx dy hnc hc hmd hd hn hp (by omega) (by omega)

theorem ndivmod {w : World} {u v : Value} {x y L M : Nat} (hu : Nw w u x L) (hv : Nw w v y M) (hL : L ≤ 17592186044000) (hy : 0 < y) :
    Calls Tryd.prog 13 #[u, v] w fun e w' => ∃ q r, e = .returned (.tuple #[q, r, .int .i64 0]) ∧ Own .u64 71 w' w.heap.size q (cn Q (x / y)) ∧ Own .u64 71 w' w.heap.size r (cn Q (x % y)) ∧
      (∀ g, q.ownBlock = some g → r.ownBlock ≠ some g) ∧ Cw w' q (x / y) L ∧ Cw w' r (x % y) M ∧ Below w.heap.size w w' := by
  have lx := hu.lt
  have ly := hv.lt
  obtain ⟨A, n, c, xs, rfl, hx, dx, h1, h2, rfl, hn⟩ := hu
  obtain ⟨D, m, d, ys, rfl, hyy, dy, h3, h4, rfl, hm⟩ := hv
  refine (divmod_any A D n c m d xs ys w hx hyy dx dy h1 h2 h3 h4 (by omega)).mono fun e w' ⟨_, h, hb⟩ => ?_
  obtain ⟨q, r, he, oq, or, hne⟩ := h hy
  exact ⟨q, r, he, oq, or, hne, Cw.of oq (Nat.lt_of_le_of_lt (Nat.div_le_self _ _) lx), Cw.of or (Nat.lt_trans (Nat.mod_lt _ hy) ly), hb⟩
theorem ndivmod_zero {w : World} {u v : Value} {x L M : Nat} (hu : Nw w u x L) (hv : Nw w v 0 M) (hL : L ≤ 17592186044000) :
    Calls Tryd.prog 13 #[u, v] w fun e w' => e = .returned (.tuple #[.slice none 0 0, .slice none 0 0, .int .i64 3]) ∧ Below w.heap.size w w' := by
  obtain ⟨A, n, c, xs, rfl, hx, dx, h1, h2, rfl, hn⟩ := hu
  obtain ⟨D, m, d, ys, rfl, hyy, dy, h3, h4, hv0, hm⟩ := hv
  exact (divmod_any A D n c m d xs ys w hx hyy dx dy h1 h2 h3 h4 (by omega)).mono fun e w' ⟨h, _, hb⟩ => ⟨h hv0, hb⟩
end Go.Proofs.YtkonakjchimniaaDoor
