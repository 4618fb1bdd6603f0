/-
  nat.Sub and nat.Cmp: exact, for all lists of words.
-/
import Derived.Test.YtkonakjchimniaaDoorSums
namespace Go.Proofs.YtkonakjchimniaaDoor
open Go.RowKit Go.Proofs.YtkonakjchimniaaDoor.Num
set_option linter.unusedVariables false
set_option maxRecDepth 100000

theorem sub_step {k x y b : Nat} {zs xs ys : List Nat} (hz : zs.length = k) (hx : xs.getD k 0 = x) (hy : ys.getD k 0 = y) (bx : x < Q) (bY : y < Q) (hb : b ≤ 1)
    (h : vl Q zs + vl Q (ys.take k) = vl Q (xs.take k) + Q ^ k * b) :
    vl Q (zs ++ [subLo x y b]) + vl Q (ys.take (k + 1)) = vl Q (xs.take (k + 1)) + Q ^ (k + 1) * subBw x y b := by
  rw [vl_snoc, hz, take_next xs k x hx, take_next ys k y hy, Nat.pow_succ]
  have e := sub_spec bY bx hb
  have e2 : Q ^ k * subLo x y b + Q ^ k * y + Q ^ k * b = Q ^ k * x + Q ^ k * Q * subBw x y b := by
    rw [Nat.mul_assoc, ← Nat.mul_add, ← Nat.mul_add, e, Nat.mul_add]
  omega

/-- What Sub answers of a less b: ErrBelow, or the difference. -/
def SubRet (t : TypeId) (w : World) (a b : Nat) (e : Ending) (w' : World) : Prop :=
  (a < b → e = .returned (.tuple #[.slice none 0 0, .int .i64 4])) ∧ (b ≤ a → ∃ v, e = .returned (.tuple #[v, .int .i64 0]) ∧ Own .u64 t w' w.heap.size v (cn Q (a - b))) ∧ Below w.heap.size w w'

def SubRel (w : World) (M : Nat) (xs ys : List Nat) (cv iv : Value) (wr : World) : Prop :=
  ∃ (k cc : Nat) (zs : List Nat), k ≤ M ∧ iv = .int .i64 (k : Int) ∧ cv = .int .u64 (cc : Int) ∧ cc ≤ 1 ∧ zs.length = k ∧ Dg Q zs ∧
    Hid (vl Q zs + vl Q (ys.take k) = vl Q (xs.take k) + Q ^ k * cc) ∧
    Row .u64 71 wr w.heap.size 0 (madeCells #[.int .u64 0] M) (zs ++ List.replicate (M - k) 0) ∧ Below w.heap.size w wr

theorem sub_end_eq {M cc : Nat} {xs ys zs : List Nat} (hn : xs.length ≤ M) (hm : ys.length ≤ M) (hz : zs.length = M) (dz : Dg Q zs) (hcc : cc ≤ 1) (dx : Dg Q xs) (dy : Dg Q ys)
    (hv : Hid (vl Q zs + vl Q (ys.take M) = vl Q (xs.take M) + Q ^ M * cc)) : (cc = 1 → vl Q xs < vl Q ys) ∧ (cc = 0 → vl Q ys ≤ vl Q xs ∧ vl Q xs - vl Q ys = vl Q zs) := by
  have e := hv.out
  rw [List.take_of_length_le (by omega), List.take_of_length_le (by omega)] at e
  have h1 := vl_lt dz
  rw [hz] at h1
  constructor
  · rintro rfl
    omega
  · rintro rfl
    omega

theorem sub_end0 {w wr : World} {M : Nat} {xs ys zs : List Nat} (hn : xs.length ≤ M) (hm : ys.length ≤ M) (dx : Dg Q xs) (dy : Dg Q ys) (hM : M ≤ maxLen) (hz : zs.length = M) (dz : Dg Q zs)
    (hv : Hid (vl Q zs + vl Q (ys.take M) = vl Q (xs.take M) + Q ^ M * 0))
    (hr : Row .u64 71 wr w.heap.size 0 (madeCells #[.int .u64 0] M) zs) (hb : Below w.heap.size w wr) :
    SubRet 71 w (vl Q xs) (vl Q ys) (.returned (.tuple #[clipV (some ⟨w.heap.size, 0, none⟩) (tz zs).length M, .int .i64 0])) wr := by
  obtain ⟨h1, h2⟩ := (sub_end_eq hn hm hz dz (by omega) dx dy hv).2 rfl
  refine ⟨fun h => by omega, fun _ => ⟨_, rfl, ?_⟩, hb⟩
  rw [h2, cn_vl Q_two dz]
  exact own_clip hr (Nat.le_refl _) (by rw [size_madeCells]) hM
theorem sub_end1 {w wr : World} {M : Nat} {xs ys zs : List Nat} (hn : xs.length ≤ M) (hm : ys.length ≤ M) (dx : Dg Q xs) (dy : Dg Q ys) (hz : zs.length = M) (dz : Dg Q zs)
    (hv : Hid (vl Q zs + vl Q (ys.take M) = vl Q (xs.take M) + Q ^ M * 1)) (hb : Below w.heap.size w wr) :
    SubRet 71 w (vl Q xs) (vl Q ys) (.returned (.tuple #[.slice none 0 0, .int .i64 4])) wr := by
  have h1 := (sub_end_eq hn hm hz dz (by omega) dx dy hv).1 rfl
  exact ⟨fun _ => rfl, fun h => by omega, hb⟩

set_option maxHeartbeats 1000000 in
theorem sub_any (A D : Option Addr) (n c m d : Nat) (xs ys : List Nat) (w : World) (hx : Rd .u64 w w.heap.size A n xs) (hy : Rd .u64 w w.heap.size D m ys)
    (dx : Dg Q xs) (dy : Dg Q ys) (hn : n ≤ 35184372088832) (hm : m ≤ 35184372088832) :
    Calls Tryd.prog 68 #[.slice A n c, .slice D m d] w (SubRet 71 w (vl Q xs) (vl Q ys)) := by
  have hnl : n ≤ maxLen := by unfold maxLen; omega
  have hml : m ≤ maxLen := by unfold maxLen; omega
  have lx := hx.1
  have ly := hy.1
  obtain ⟨M, hM⟩ : ∃ M, M = max n m := ⟨_, rfl⟩
  have hxM : xs.length ≤ M := by omega
  have hyM : ys.length ≤ M := by omega
  have hMl : M ≤ maxLen := by unfold maxLen; omega
  have hMb : M ≤ 35184372088832 := by omega
  have hmk := make_u64 M (by omega)
  clear lx ly
  rcases Nat.lt_or_ge n m with hnm | hnm
  case' inl => obtain rfl : M = m := by omega
  case' inr => obtain rfl : M = n := by omega
  all_goals
    have e0 : Hid (vl Q ([] : List Nat) + vl Q (ys.take 0) = vl Q (xs.take 0) + Q ^ 0 * 0) := hide (by simp [vl])
    clear hM
    go_enter Tryd.func68, Tryd.ntmps68
    go_wp2_with fail
    go_loopw [7, 17] (fun cv iv wr => SubRel w M xs ys cv iv wr) (fun _ iv _ => M - (intOf iv).toNat)
    case atStart => exact ⟨0, 0, [], by omega, rfl, rfl, by omega, rfl, Dg.nil, e0, by simpa using Row.made w .u64 71 M, (Below.refl _ _).alloc (Nat.le_refl _) _⟩
    case round =>
      obtain ⟨k, cc, zs, hk, rfl, rfl, hcc, hz, dz, hv, hrow, hbel⟩ := hrel
      clear hmk
      by_cases hlt : k < M
      · obtain ⟨r, hr⟩ : ∃ r, M - k = r + 1 := ⟨M - k - 1, by omega⟩
        rw [hr] at hrow
        obtain ⟨x, ex⟩ : ∃ x, Hid (xs.getD k 0 = x) := ⟨_, hide rfl⟩
        obtain ⟨y, ey⟩ : ∃ y, Hid (ys.getD k 0 = y) := ⟨_, hide rfl⟩
        have hst := hrow.set_ (j := k) (by rw [fill_len]; omega) (subLo x y cc)
        have hcell := hrow.cell (j := k) (by rw [fill_len]; omega)
        have hfr := hrow.frozen k
        rw [Nat.zero_add] at hst hcell
        have ez : (zs ++ List.replicate (r + 1) 0).set k (subLo x y cc) = zs ++ [subLo x y cc] ++ List.replicate (M - (k + 1)) 0 := by
          rw [← hz, fill_set, hz]; congr 2; omega
        rw [ez] at hst
        have hv2 := hide (sub_step hz ex.out ey.out (by rw [← ex.out]; exact dx.getD Q_pos k) (by rw [← ey.out]; exact dy.getD Q_pos k) hcc hv.out)
        have hx2 := hx.below hbel (Nat.le_refl _)
        have hy2 := hy.below hbel (Nat.le_refl _)
        have hcy := subBw_le x y cc
        have hb2 := hbel.setCell (p := ⟨w.heap.size, k, none⟩) (Nat.le_refl _) (.int .u64 ((subLo x y cc : Nat) : Int))
        have hz2 : (zs ++ [subLo x y cc]).length = k + 1 := by simp [hz]
        have dz2 : Dg Q (zs ++ [subLo x y cc]) := dz.append (Dg.cons (subLo_lt _ _ _) Dg.nil)
        obtain ⟨v0, hcell⟩ : ∃ v0 : Int, wr.cell? ⟨w.heap.size, k, none⟩ = some (.int .u64 v0) := ⟨_, hcell⟩
        have fin : SubRel w M xs ys (.int .u64 ((subBw x y cc : Nat) : Int)) (.int .i64 ((k + 1 : Nat) : Int)) (wr.setCell ⟨w.heap.size, k, none⟩ (.int .u64 ((subLo x y cc : Nat) : Int))) :=
          ⟨k + 1, subBw x y cc, _, by omega, rfl, rfl, hcy, hz2, dz2, hv2, hst, hb2⟩
        clear hst hv2 hb2 hz2 dz2 ez hr hrow hv hbel hz dz dx dy hxM hyM
        go_wp2_with (first
          | (go_at_call 76; (with_reducible refine (at_get w.heap.size A _ c xs k x _ hx2 hnl ex).mono ?_); rintro e w' ⟨rfl, rfl⟩)
          | (go_at_call 76; (with_reducible refine (at_get w.heap.size D _ d ys k y _ hy2 hml ey).mono ?_); rintro e w' ⟨rfl, rfl⟩)
          | simp only [sub64 x y cc hcc])
        go_roundw
        case rel => exact fin
        case measure => simp [intOf]; omega
      · obtain rfl : k = M := by omega
        simp only [Nat.sub_self, List.replicate_zero, List.append_nil] at hrow
        by_cases hc0 : cc = 0
        · subst hc0
          have hcl := clip_any (w.heap.size + 1) (some ⟨w.heap.size, 0, none⟩) k k zs wr ⟨hz, fun _ => ⟨_, _, rfl, by omega, fun j hj => hrow.cell (by omega)⟩⟩ (Nat.le_refl _) hMl
          have fin := sub_end0 hxM hyM dx dy hMl hz dz hv hrow hbel
          clear hz dz hv hrow hbel hx hy dx dy hxM hyM
          go_wp2_with (go_at_call 50; refine hcl.mono ?_; rintro e w' ⟨rfl, rfl⟩)
          go_ret2
          exact fin
        · obtain rfl : cc = 1 := by omega
          have fin := sub_end1 hxM hyM dx dy hz dz hv hbel
          clear hz dz hv hrow hbel hx hy dx dy hxM hyM
          go_wp2_with fail
          go_ret2
          exact fin

/-- Less: -1, alike: 0, more: 1. -/
def cmpN (x y : Nat) : Int := if x < y then -1 else if y < x then 1 else 0
theorem cmpN_lt {x y : Nat} (h : x < y) : cmpN x y = -1 := by unfold cmpN; rw [if_pos h]
theorem cmpN_gt {x y : Nat} (h : y < x) : cmpN x y = 1 := by unfold cmpN; rw [if_neg (by omega), if_pos h]
theorem cmpN_eq (x : Nat) : cmpN x x = 0 := by unfold cmpN; rw [if_neg (by omega), if_neg (by omega)]

theorem compare_any (x y : Nat) (w : World) : Calls Tryd.prog 90 #[.int .u64 (x : Int), .int .u64 (y : Int)] w fun e w' => e = .returned (.int .i64 (cmpN x y)) ∧ w = w' := by
  rcases Nat.lt_trichotomy x y with h | h | h
  · have e := hide (cmpN_lt h)
    go_enter Tryd.func90, Tryd.ntmps90
    go_wp2
    go_ret
    exact ⟨by rw [e.out]; rfl, rfl⟩
  · subst h
    have e := hide (cmpN_eq x)
    go_enter Tryd.func90, Tryd.ntmps90
    go_wp2
    go_ret
    exact ⟨by rw [e.out]; rfl, rfl⟩
  · have e := hide (cmpN_gt h)
    go_enter Tryd.func90, Tryd.ntmps90
    go_wp2
    go_ret
    exact ⟨by rw [e.out]; rfl, rfl⟩

theorem vl_cut (B : Nat) (xs : List Nat) (k : Nat) : vl B xs = vl B (xs.take k) + B ^ k * vl B (xs.drop k) := by
  rcases Nat.le_total k xs.length with h | h
  · exact vl_split B xs k h
  · rw [List.take_of_length_le h, List.drop_eq_nil_of_le h]; simp [vl]
theorem vl_drop (B : Nat) (xs : List Nat) (k : Nat) : vl B (xs.drop k) = xs.getD k 0 + B * vl B (xs.drop (k + 1)) := by
  rcases Nat.lt_or_ge k xs.length with h | h
  · rw [List.drop_eq_getElem_cons h]; simp [vl, List.getD_eq_getElem?_getD, h]
  · rw [List.drop_eq_nil_of_le h, List.drop_eq_nil_of_le (by omega)]; simp [vl, List.getD_eq_getElem?_getD, List.getElem?_eq_none h]
theorem vl_take_lt {B : Nat} {xs : List Nat} (hB : 0 < B) (h : Dg B xs) (k : Nat) : vl B (xs.take k) < B ^ k :=
  Nat.lt_of_lt_of_le (vl_lt (h.take k)) (Nat.pow_le_pow_right hB (by rw [List.length_take]; omega))
/-- Of two numbers the first places that differ from above decide. -/
theorem vl_less {B k x y : Nat} {xs ys : List Nat} (hB : 0 < B) (dx : Dg B xs) (hx : xs.getD k 0 = x) (hy : ys.getD k 0 = y) (h : vl B (xs.drop (k + 1)) = vl B (ys.drop (k + 1))) (hlt : x < y) : vl B xs < vl B ys := by
  rw [vl_cut B xs k, vl_cut B ys k, vl_drop B xs k, vl_drop B ys k, hx, hy, h]
  have h1 := vl_take_lt hB dx k
  have h2 : B ^ k * (x + B * vl B (ys.drop (k + 1)) + 1) ≤ B ^ k * (y + B * vl B (ys.drop (k + 1))) := Nat.mul_le_mul_left _ (by omega)
  rw [Nat.mul_add _ _ 1, Nat.mul_one] at h2
  omega

set_option maxHeartbeats 1000000 in
theorem cmp_any (B : Nat) (A D : Option Addr) (n c m d : Nat) (xs ys : List Nat) (w : World) (hx : Rd .u64 w B A n xs) (hy : Rd .u64 w B D m ys)
    (dx : Dg Q xs) (dy : Dg Q ys) (hn : n ≤ maxLen) (hm : m ≤ maxLen) :
    Calls Tryd.prog 53 #[.slice A n c, .slice D m d] w fun e w' => e = .returned (.int .i64 (cmpN (vl Q xs) (vl Q ys))) ∧ w = w' := by
  have hnl := hn
  have hml := hm
  unfold maxLen at hn hm
  have lx := hx.1
  have ly := hy.1
  obtain ⟨M, hM⟩ : ∃ M, M = max n m := ⟨_, rfl⟩
  have hxM : xs.length ≤ M := by omega
  have hyM : ys.length ≤ M := by omega
  clear lx ly
  rcases Nat.lt_or_ge n m with hnm | hnm
  case' inl => obtain rfl : M = m := by omega
  case' inr => obtain rfl : M = n := by omega
  all_goals
    clear hM
    have e0 : Hid (vl Q (xs.drop M) = vl Q (ys.drop M)) := hide (by rw [List.drop_eq_nil_of_le hxM, List.drop_eq_nil_of_le hyM])
    go_enter Tryd.func53, Tryd.ntmps53
    go_wp2_with fail
    go_loop [5] (fun iv => ∃ k : Nat, k ≤ M ∧ iv = .int .i64 ((k : Int) - 1) ∧ Hid (vl Q (xs.drop k) = vl Q (ys.drop k))) (fun iv => (intOf iv + 1).toNat)
    case atStart => exact ⟨M, Nat.le_refl _, rfl, e0⟩
    case round =>
      obtain ⟨k, hk, rfl, hv⟩ := hrel
      rcases Nat.eq_zero_or_pos k with h0 | h0
      · subst h0
        have e := hv.out
        rw [List.drop_zero, List.drop_zero] at e
        have e2 := hide (cmpN_eq (vl Q ys))
        rw [← e] at e2
        go_wp2_with fail
        go_ret
        exact ⟨by rw [← e, e2.out]; rfl, rfl⟩
      · obtain ⟨j, rfl⟩ : ∃ j, k = j + 1 := ⟨k - 1, by omega⟩
        have ej : ((j + 1 : Nat) : Int) - 1 = (j : Int) := by omega
        rw [ej]
        obtain ⟨x, ex⟩ : ∃ x, Hid (xs.getD j 0 = x) := ⟨_, hide rfl⟩
        obtain ⟨y, ey⟩ : ∃ y, Hid (ys.getD j 0 = y) := ⟨_, hide rfl⟩
        rcases Nat.lt_trichotomy x y with h | h | h
        · have e1 := hide (cmpN_lt h)
          have e2 := hide (cmpN_lt (vl_less Q_pos dx ex.out ey.out hv.out h))
          have hcmp := compare_any x y w
          rw [e1.out] at hcmp
          clear ej e0
          go_wp2_with (first
            | (go_at_call 76; (with_reducible refine (at_get B A _ c xs j x _ hx hnl ex).mono ?_); rintro e w' ⟨rfl, rfl⟩)
            | (go_at_call 76; (with_reducible refine (at_get B D _ d ys j y _ hy hml ey).mono ?_); rintro e w' ⟨rfl, rfl⟩)
            | (go_at_call 90; refine hcmp.mono ?_; rintro e w' ⟨rfl, rfl⟩))
          go_ret
          exact ⟨by rw [e2.out]; rfl, rfl⟩
        · subst h
          have hcmp := compare_any x x w
          rw [cmpN_eq] at hcmp
          have e2 : Hid (vl Q (xs.drop j) = vl Q (ys.drop j)) := hide (by rw [vl_drop Q xs j, vl_drop Q ys j, ex.out, ey.out, hv.out])
          clear ej e0
          go_wp2_with (first
            | (go_at_call 76; (with_reducible refine (at_get B A _ c xs j x _ hx hnl ex).mono ?_); rintro e w' ⟨rfl, rfl⟩)
            | (go_at_call 76; (with_reducible refine (at_get B D _ d ys j x _ hy hml ey).mono ?_); rintro e w' ⟨rfl, rfl⟩)
            | (go_at_call 90; refine hcmp.mono ?_; rintro e w' ⟨rfl, rfl⟩))
          go_round
          case rel => exact ⟨j, by omega, rfl, e2⟩
          case measure => simp [intOf]
        · have e1 := hide (cmpN_gt h)
          have e2 := hide (cmpN_gt (vl_less Q_pos dy ey.out ex.out hv.out.symm h))
          have hcmp := compare_any x y w
          rw [e1.out] at hcmp
          clear ej e0
          go_wp2_with (first
            | (go_at_call 76; (with_reducible refine (at_get B A _ c xs j x _ hx hnl ex).mono ?_); rintro e w' ⟨rfl, rfl⟩)
            | (go_at_call 76; (with_reducible refine (at_get B D _ d ys j y _ hy hml ey).mono ?_); rintro e w' ⟨rfl, rfl⟩)
            | (go_at_call 90; refine hcmp.mono ?_; rintro e w' ⟨rfl, rfl⟩))
          go_ret
          exact ⟨by rw [e2.out]; rfl, rfl⟩
end Go.Proofs.YtkonakjchimniaaDoor
