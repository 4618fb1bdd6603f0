/-
  nat.takeTimes, nat.putBack.
-/
import Derived.Test.YtkonakjchimniaaDoorShift
namespace Go.Proofs.YtkonakjchimniaaDoor
open Go.RowKit Go.Proofs.YtkonakjchimniaaDoor.Num
set_option linter.unusedVariables false
set_option maxRecDepth 100000

theorem tk_step {k v wv z ov bw : Nat} {us zs ys : List Nat} (hu : us.length = k) (hz : zs.getD k 0 = z) (hy : ys.getD k 0 = v) (bz : z < Q) (hbw : bw ≤ 1)
    (h : vl Q us + wv * vl Q (ys.take k) = vl Q (zs.take k) + Q ^ k * (bw + ov)) :
    vl Q (us ++ [subLo z (addLo (mulLo v wv) ov 0) bw]) + wv * vl Q (ys.take (k + 1)) = vl Q (zs.take (k + 1)) + Q ^ (k + 1) * (subBw z (addLo (mulLo v wv) ov 0) bw + (mulHi v wv + addCy (mulLo v wv) ov 0)) := by
  rw [vl_snoc, hu, take_next zs k z hz, take_next ys k v hy, Nat.pow_succ]
  have e1 := mul_spec v wv
  have e2 := add_spec (mulLo v wv) ov 0
  have e3 := sub_spec (addLo_lt (mulLo v wv) ov 0) bz hbw
  generalize addLo (mulLo v wv) ov 0 = l1 at *
  generalize addCy (mulLo v wv) ov 0 = c1 at *
  generalize subLo z l1 bw = l2 at *
  generalize subBw z l1 bw = c2 at *
  generalize mulHi v wv = hi at *
  generalize mulLo v wv = lo at *
  have key : l2 + v * wv + (bw + ov) = z + Q * (c2 + (hi + c1)) := by
    rw [Nat.mul_add, Nat.mul_add]; omega
  have e4 : Q ^ k * l2 + wv * (Q ^ k * v) + Q ^ k * (bw + ov) = Q ^ k * z + Q ^ k * Q * (c2 + (hi + c1)) := by
    rw [Nat.mul_assoc (Q ^ k) Q, ← Nat.mul_add, ← key, Nat.mul_add (Q ^ k) (l2 + v * wv), Nat.mul_add (Q ^ k) l2, Nat.mul_left_comm wv, Nat.mul_comm wv v]
  rw [Nat.mul_add wv]
  omega
theorem tk_bound {v wv ov : Nat} (hv : v < Q) (hw : wv < Q) (ho : ov < Q) : mulHi v wv + addCy (mulLo v wv) ov 0 < Q := by
  have e1 := mul_spec v wv
  have e2 := add_spec (mulLo v wv) ov 0
  have h := mul_add_two hv hw ho Q_pos
  have key : Q * (mulHi v wv + addCy (mulLo v wv) ov 0) ≤ v * wv + ov + 0 := by
    rw [Nat.mul_add]; omega
  exact Nat.lt_of_mul_lt_mul_left (Nat.lt_of_le_of_lt key h)
theorem tk_end {n wv z ov bw : Nat} {us zs ys : List Nat} (hu : us.length = n) (hzl : zs.length = n + 1) (hyl : ys.length = n) (hz : zs.getD n 0 = z) (bz : z < Q) (hbw : bw ≤ 1) (ho : ov < Q)
    (h : vl Q us + wv * vl Q (ys.take n) = vl Q (zs.take n) + Q ^ n * (bw + ov)) :
    vl Q (us ++ [subLo z ov bw]) + wv * vl Q ys = vl Q zs + Q ^ (n + 1) * subBw z ov bw := by
  have e0 := take_next zs n z hz
  rw [List.take_of_length_le (by omega)] at e0
  rw [List.take_of_length_le (by omega)] at h
  rw [vl_snoc, hu, e0, Nat.pow_succ]
  have e3 := sub_spec ho bz hbw
  generalize subLo z ov bw = l2 at *
  generalize subBw z ov bw = c2 at *
  have e4 : Q ^ n * l2 + Q ^ n * (bw + ov) = Q ^ n * z + Q ^ n * Q * c2 := by
    rw [Nat.mul_assoc, ← Nat.mul_add, ← Nat.mul_add]
    congr 1
    omega
  omega

/-- What takeTimes and putBack leave: in the block g at off the words, and whether it went over. -/
def TkRet (t : TypeId) (w : World) (g off : Nat) (C : Array Value) (n V P : Nat) (e : Ending) (w' : World) : Prop :=
  ∃ (bw : Nat) (us : List Nat), e = .returned (.bool (decide (bw = 1))) ∧ bw ≤ 1 ∧ us.length = n + 1 ∧ Dg Q us ∧ vl Q us + P = V + Q ^ (n + 1) * bw ∧ Row .u64 t w' g off C us ∧ w.grownBy w' (some g)
def PbRet (t : TypeId) (w : World) (g off : Nat) (C : Array Value) (n S : Nat) (e : Ending) (w' : World) : Prop :=
  ∃ (cy : Nat) (us : List Nat), e = .returned (.bool (decide (cy = 1))) ∧ cy ≤ 1 ∧ us.length = n + 1 ∧ Dg Q us ∧ vl Q us + Q ^ (n + 1) * cy = S ∧ Row .u64 t w' g off C us ∧ w.grownBy w' (some g)

def TkRel (w : World) (g off n wv : Nat) (C : Array Value) (zs ys : List Nat) (cv bv iv : Value) (wr : World) : Prop :=
  ∃ (k ov bw : Nat) (us : List Nat), k ≤ n ∧ iv = .int .i64 (k : Int) ∧ cv = .int .u64 (ov : Int) ∧ bv = .int .u64 (bw : Int) ∧ ov < Q ∧ bw ≤ 1 ∧ Hid (us.length = k) ∧ Dg Q us ∧
    Hid (vl Q us + wv * vl Q (ys.take k) = vl Q (zs.take k) + Q ^ k * (bw + ov)) ∧ Row .u64 71 wr g off C (us ++ zs.drop k) ∧ w.grownBy wr (some g)

set_option maxHeartbeats 4000000 in
theorem takeTimes_any (B g off n c d wv : Nat) (D : Option Addr) (C : Array Value) (zs ys : List Nat) (w : World)
    (hr : Row .u64 71 w g off C zs) (hzn : zs.length = n + 1) (hy : Rd .u64 w B D n ys) (hB : B ≤ w.heap.size) (hD : 0 < n → ∀ a, D = some a → a.block ≠ g)
    (dz : Dg Q zs) (dy : Dg Q ys) (hw : wv < Q) (hn : n ≤ 4611686018427387904) :
    Calls Tryd.prog 87 #[.slice (some ⟨g, off, none⟩) (n + 1) c, .slice D n d, .int .u64 (wv : Int)] w (TkRet 71 w g off C n (vl Q zs) (wv * vl Q ys)) := by
  have e0 : Hid (vl Q ([] : List Nat) + wv * vl Q (ys.take 0) = vl Q (zs.take 0) + Q ^ 0 * (0 + 0)) := hide (by simp [vl])
  have Hz := hide hzn
  have Dz := hide dz
  have Dy := hide dy
  clear hzn dz dy
  go_enter Tryd.func87, Tryd.ntmps87
  go_wp2_with fail
  go_loopw [7, 8, 16] (fun cv bv iv wr => TkRel w g off n wv C zs ys cv bv iv wr) (fun _ _ iv _ => n - (intOf iv).toNat)
  case atStart => exact ⟨0, 0, 0, [], by omega, rfl, rfl, rfl, Q_pos, by omega, hide rfl, Dg.nil, e0, by simpa using hr, only_refl _ _⟩
  case round =>
    obtain ⟨k, ov, bw, us, hk, rfl, rfl, rfl, hov, hbw, hu, du, hv, hrow, hg⟩ := hrel
    clear e0 hr
    by_cases hlt : k < n
    · obtain ⟨z, ez⟩ : ∃ z, Hid (zs.getD k 0 = z) := ⟨_, hide rfl⟩
      obtain ⟨v, ev⟩ : ∃ v, Hid (ys.getD k 0 = v) := ⟨_, hide rfl⟩
      have bz : z < Q := by rw [← ez.out]; exact Dz.out.getD Q_pos k
      have bv : v < Q := by rw [← ev.out]; exact Dy.out.getD Q_pos k
      have hkz : k < zs.length := by rw [Hz.out]; omega
      have hll : k < (us ++ zs.drop k).length := by have := hu.out; have := Hz.out; simp; omega
      have hcell := hrow.cell hll
      rw [drop_getD us zs hu.out, ez.out] at hcell
      have hfr := hrow.frozen (off + k)
      have hy2 := hy.grownOff hg hB (hD (by omega))
      obtain ⟨bb, bo, rfl, _, hcy⟩ := hy2.at_ hlt
      rw [ev.out] at hcy
      have hst := hrow.set_ hll (subLo z (addLo (mulLo v wv) ov 0) bw)
      rw [drop_set us zs hu.out hkz] at hst
      have hv2 := hide (tk_step hu.out ez.out ev.out bz hbw hv.out)
      have hbd := tk_bound bv hw hov
      have hb1 := subBw_le z (addLo (mulLo v wv) ov 0) bw
      have hg2 := only_set (p := ⟨g, off + k, none⟩) hg rfl (.int .u64 ((subLo z (addLo (mulLo v wv) ov 0) bw : Nat) : Int))
      have fin : TkRel w g off n wv C zs ys (.int .u64 ((mulHi v wv + addCy (mulLo v wv) ov 0 : Nat) : Int)) (.int .u64 ((subBw z (addLo (mulLo v wv) ov 0) bw : Nat) : Int)) (.int .i64 ((k + 1 : Nat) : Int))
          (wr.setCell ⟨g, off + k, none⟩ (.int .u64 ((subLo z (addLo (mulLo v wv) ov 0) bw : Nat) : Int))) :=
        ⟨k + 1, _, _, _, by omega, rfl, rfl, rfl, hbd, hb1, hide (by simp [hu.out]), du.append (Dg.cons (subLo_lt _ _ _) Dg.nil), hv2, hst, hg2⟩
      have hm := mul64 v wv bv hw wr
      have a1 := add64_0 (mulLo v wv) ov
      have a2 := sub64 z (addLo (mulLo v wv) ov 0) bw hbw
      generalize subLo z (addLo (mulLo v wv) ov 0) bw = l2 at *
      generalize subBw z (addLo (mulLo v wv) ov 0) bw = c2 at *
      generalize addLo (mulLo v wv) ov 0 = l1 at *
      generalize addCy (mulLo v wv) ov 0 = c1 at *
      generalize mulLo v wv = lo at *
      generalize mulHi v wv = hi at *
      have b1 : (hi : Int) + (c1 : Int) ≤ 18446744073709551615 := by unfold Q at hbd; omega
      have Fin := hide fin
      clear hst hv2 hg2 hbd hu du hv hrow hg hll hkz bz bv hy hy2 hB hD Dz Dy hw hov ez ev Hz fin hb1 hbw
      go_wp2_with (go_at_call 94; refine hm.mono ?_; rintro e w' ⟨rfl, rfl⟩)
      go_roundw
      case rel => exact Fin.out
      case measure => simp [intOf]; omega
    · obtain rfl : k = n := by omega
      obtain ⟨z, ez⟩ : ∃ z, Hid (zs.getD k 0 = z) := ⟨_, hide rfl⟩
      have bz : z < Q := by rw [← ez.out]; exact Dz.out.getD Q_pos k
      have hkz : k < zs.length := by rw [Hz.out]; omega
      have hll : k < (us ++ zs.drop k).length := by have := hu.out; have := Hz.out; simp; omega
      have hcell := hrow.cell hll
      rw [drop_getD us zs hu.out, ez.out] at hcell
      have hfr := hrow.frozen (off + k)
      have hst := hrow.set_ hll (subLo z ov bw)
      rw [drop_set us zs hu.out hkz, List.drop_eq_nil_of_le (by rw [Hz.out]; omega), List.append_nil] at hst
      have hv2 := hide (tk_end hu.out Hz.out hy.1 ez.out bz hbw hov hv.out)
      have hb1 := subBw_le z ov bw
      have hg2 := only_set (p := ⟨g, off + k, none⟩) hg rfl (.int .u64 ((subLo z ov bw : Nat) : Int))
      have a2 := sub64 z ov bw hbw
      have hl2 := subLo_lt z ov bw
      generalize subLo z ov bw = l2 at *
      generalize subBw z ov bw = c2 at *
      have fin : TkRet 71 w g off C k (vl Q zs) (wv * vl Q ys) (.returned (.bool (decide (c2 = 1)))) (wr.setCell ⟨g, off + k, none⟩ (.int .u64 (l2 : Int))) :=
        ⟨c2, us ++ [l2], rfl, hb1, by simp [hu.out], du.append (Dg.cons hl2 Dg.nil), hv2.out, hst, hg2⟩
      have Fin := hide fin
      have i1 : (k : Int) < (k : Int) + 1 := by omega
      clear hst hv2 hg2 hu du hv hrow hg hll hkz bz hy hB hD Dz Dy hw hov ez Hz fin hbw hl2
      rcases Nat.eq_zero_or_pos c2 with h | h
      · subst h
        have t0 : (((0 : Int)) != 0) = false := rfl
        go_wp2_with fail
        go_ret
        exact Fin.out
      · obtain rfl : c2 = 1 := by omega
        have t0 : (((1 : Int)) != 0) = true := rfl
        go_wp2_with fail
        go_ret
        exact Fin.out

/-! ### Put on again -/
theorem pb_end {n z cy : Nat} {us zs ys : List Nat} (hu : us.length = n) (hzl : zs.length = n + 1) (hyl : ys.length = n) (hz : zs.getD n 0 = z)
    (h : vl Q us + Q ^ n * cy = vl Q (zs.take n) + vl Q (ys.take n)) :
    vl Q (us ++ [addLo z 0 cy]) + Q ^ (n + 1) * addCy z 0 cy = vl Q zs + vl Q ys := by
  have e0 := take_next zs n z hz
  rw [List.take_of_length_le (by omega)] at e0
  rw [List.take_of_length_le (show ys.length ≤ n by omega)] at h
  rw [vl_snoc, hu, e0, Nat.pow_succ]
  have e3 := add_spec z 0 cy
  generalize addLo z 0 cy = l2 at *
  generalize addCy z 0 cy = c2 at *
  have e4 : Q ^ n * l2 + Q ^ n * Q * c2 = Q ^ n * z + Q ^ n * cy := by
    rw [Nat.mul_assoc, ← Nat.mul_add, ← Nat.mul_add]
    congr 1
  omega

def PbRel (w : World) (g off n : Nat) (C : Array Value) (zs ys : List Nat) (cv iv : Value) (wr : World) : Prop :=
  ∃ (k cy : Nat) (us : List Nat), k ≤ n ∧ iv = .int .i64 (k : Int) ∧ cv = .int .u64 (cy : Int) ∧ cy ≤ 1 ∧ Hid (us.length = k) ∧ Dg Q us ∧
    Hid (vl Q us + Q ^ k * cy = vl Q (zs.take k) + vl Q (ys.take k)) ∧ Row .u64 71 wr g off C (us ++ zs.drop k) ∧ w.grownBy wr (some g)

set_option maxHeartbeats 4000000 in
theorem putBack_any (B g off n c d : Nat) (D : Option Addr) (C : Array Value) (zs ys : List Nat) (w : World)
    (hr : Row .u64 71 w g off C zs) (hzn : zs.length = n + 1) (hy : Rd .u64 w B D n ys) (hB : B ≤ w.heap.size) (hD : 0 < n → ∀ a, D = some a → a.block ≠ g)
    (dz : Dg Q zs) (dy : Dg Q ys) (hn : n ≤ 4611686018427387904) :
    Calls Tryd.prog 88 #[.slice (some ⟨g, off, none⟩) (n + 1) c, .slice D n d] w (PbRet 71 w g off C n (vl Q zs + vl Q ys)) := by
  have e0 : Hid (vl Q ([] : List Nat) + Q ^ 0 * 0 = vl Q (zs.take 0) + vl Q (ys.take 0)) := hide (by simp [vl])
  have Hz := hide hzn
  have Dz := hide dz
  have Dy := hide dy
  clear hzn dz dy
  go_enter Tryd.func88, Tryd.ntmps88
  go_wp2_with fail
  go_loopw [5, 10] (fun cv iv wr => PbRel w g off n C zs ys cv iv wr) (fun _ iv _ => n - (intOf iv).toNat)
  case atStart => exact ⟨0, 0, [], by omega, rfl, rfl, by omega, hide rfl, Dg.nil, e0, by simpa using hr, only_refl _ _⟩
  case round =>
    obtain ⟨k, cy, us, hk, rfl, rfl, hcy, hu, du, hv, hrow, hg⟩ := hrel
    clear e0 hr
    by_cases hlt : k < n
    · obtain ⟨z, ez⟩ : ∃ z, Hid (zs.getD k 0 = z) := ⟨_, hide rfl⟩
      obtain ⟨v, ev⟩ : ∃ v, Hid (ys.getD k 0 = v) := ⟨_, hide rfl⟩
      have bz : z < Q := by rw [← ez.out]; exact Dz.out.getD Q_pos k
      have bv : v < Q := by rw [← ev.out]; exact Dy.out.getD Q_pos k
      have hkz : k < zs.length := by rw [Hz.out]; omega
      have hll : k < (us ++ zs.drop k).length := by have := hu.out; have := Hz.out; simp; omega
      have hcell := hrow.cell hll
      rw [drop_getD us zs hu.out, ez.out] at hcell
      have hfr := hrow.frozen (off + k)
      have hy2 := hy.grownOff hg hB (hD (by omega))
      obtain ⟨bb, bo, rfl, _, hcyl⟩ := hy2.at_ hlt
      rw [ev.out] at hcyl
      have hst := hrow.set_ hll (addLo z v cy)
      rw [drop_set us zs hu.out hkz] at hst
      have hv2 := hide (add_step hu.out ez.out ev.out hv.out)
      have hb1 := addCy_le bz bv hcy
      have hg2 := only_set (p := ⟨g, off + k, none⟩) hg rfl (.int .u64 ((addLo z v cy : Nat) : Int))
      have fin : PbRel w g off n C zs ys (.int .u64 ((addCy z v cy : Nat) : Int)) (.int .i64 ((k + 1 : Nat) : Int)) (wr.setCell ⟨g, off + k, none⟩ (.int .u64 ((addLo z v cy : Nat) : Int))) :=
        ⟨k + 1, _, _, by omega, rfl, rfl, hb1, hide (by simp [hu.out]), du.append (Dg.cons (addLo_lt _ _ _) Dg.nil), hv2, hst, hg2⟩
      have a2 := add64 z v cy hcy
      generalize addLo z v cy = l2 at *
      generalize addCy z v cy = c2 at *
      have Fin := hide fin
      clear hst hv2 hg2 hu du hv hrow hg hll hkz bz bv hy hy2 hB hD Dz Dy ez ev Hz fin hb1 hcy
      go_wp2_with fail
      go_roundw
      case rel => exact Fin.out
      case measure => simp [intOf]; omega
    · obtain rfl : k = n := by omega
      obtain ⟨z, ez⟩ : ∃ z, Hid (zs.getD k 0 = z) := ⟨_, hide rfl⟩
      have bz : z < Q := by rw [← ez.out]; exact Dz.out.getD Q_pos k
      have hkz : k < zs.length := by rw [Hz.out]; omega
      have hll : k < (us ++ zs.drop k).length := by have := hu.out; have := Hz.out; simp; omega
      have hcell := hrow.cell hll
      rw [drop_getD us zs hu.out, ez.out] at hcell
      have hfr := hrow.frozen (off + k)
      have hst := hrow.set_ hll (addLo z 0 cy)
      rw [drop_set us zs hu.out hkz, List.drop_eq_nil_of_le (by rw [Hz.out]; omega), List.append_nil] at hst
      have hv2 := hide (pb_end hu.out Hz.out hy.1 ez.out hv.out)
      have hb1 := addCy_le bz Q_pos hcy
      have hg2 := only_set (p := ⟨g, off + k, none⟩) hg rfl (.int .u64 ((addLo z 0 cy : Nat) : Int))
      have a2 : ∀ w, (callFunc 95 #[.int .u64 (z : Int), .int .u64 0, .int .u64 (cy : Int)]).run Tryd.prog w = .ok (.value (.tuple #[.int .u64 ((addLo z 0 cy : Nat) : Int), .int .u64 ((addCy z 0 cy : Nat) : Int)])) w := add64 z 0 cy hcy
      have hl2 := addLo_lt z 0 cy
      generalize addLo z 0 cy = l2 at *
      generalize addCy z 0 cy = c2 at *
      have fin : PbRet 71 w g off C k (vl Q zs + vl Q ys) (.returned (.bool (decide (c2 = 1)))) (wr.setCell ⟨g, off + k, none⟩ (.int .u64 (l2 : Int))) :=
        ⟨c2, us ++ [l2], rfl, hb1, by simp [hu.out], du.append (Dg.cons hl2 Dg.nil), hv2.out, hst, hg2⟩
      have Fin := hide fin
      have i1 : (k : Int) < (k : Int) + 1 := by omega
      clear hst hv2 hg2 hu du hv hrow hg hll hkz bz hy hB hD Dz Dy ez Hz fin hcy hl2
      rcases Nat.eq_zero_or_pos c2 with h | h
      · subst h
        have t0 : (((0 : Int)) != 0) = false := rfl
        go_wp2_with fail
        go_ret
        exact Fin.out
      · obtain rfl : c2 = 1 := by omega
        have t0 : (((1 : Int)) != 0) = true := rfl
        go_wp2_with fail
        go_ret
        exact Fin.out
end Go.Proofs.YtkonakjchimniaaDoor
