/-
  nat.Add, nat.Sub, nat.Cmp: exact, for all lists of words.
-/
import Derived.Test.YtkonakjchimniaaDoorBits
namespace Go.Proofs.YtkonakjchimniaaDoor
open Go.RowKit Go.Proofs.YtkonakjchimniaaDoor.Num
set_option linter.unusedVariables false
set_option maxRecDepth 100000

theorem info_u64 : (Tryd.prog.info? 71).map (fun i => (i.zero, i.size, i.bytes)) = some (some (.int .u64 0), 1, 8) := by kernel_rfl

/-- 'make([]uint64, n)'. -/
theorem make_u64 (n : Nat) (hn : n ≤ 35184372088832) (u : World) : (Instr.makeSlice 22 (.int .i64 (n : Int)) (.int .i64 (n : Int))).run Tryd.prog u =
    .ok (.slice (some ⟨u.heap.size, 0, none⟩) n n) (u.alloc (.cells (madeCells #[.int .u64 0] n) 71)) := by
  obtain ⟨i0, hi, hz0, hz1, hz2⟩ := info_parts info_u64
  have h := run_make (P := Tryd.prog) u 22 71 i0 (.int .u64 0) Tryd.underlying22 hi hz0 .i64 .i64 (n : Int) (n : Int) (by omega) (Int.le_refl _) (by rw [hz2]; omega) (by omega)
  have e : (n : Int).toNat = n := by omega
  rw [e] at h
  simpa [hz1, Value.cells] using h

/-- What a function leaves that answers a new list. -/
def OwnRet (k : IntKind) (t : TypeId) (w : World) (zs : List Nat) (e : Ending) (w' : World) : Prop := ∃ v, e = .returned v ∧ Own k t w' w.heap.size v zs ∧ Below w.heap.size w w'

theorem take_next (xs : List Nat) (k x : Nat) (h : xs.getD k 0 = x) : vl Q (xs.take (k + 1)) = vl Q (xs.take k) + Q ^ k * x := by rw [vl_take_succ, h]

theorem add_step {k x y c : Nat} {zs xs ys : List Nat} (hz : zs.length = k) (hx : xs.getD k 0 = x) (hy : ys.getD k 0 = y)
    (h : vl Q zs + Q ^ k * c = vl Q (xs.take k) + vl Q (ys.take k)) :
    vl Q (zs ++ [addLo x y c]) + Q ^ (k + 1) * addCy x y c = vl Q (xs.take (k + 1)) + vl Q (ys.take (k + 1)) := by
  rw [vl_snoc, hz, take_next xs k x hx, take_next ys k y hy, Nat.pow_succ]
  have e := add_spec x y c
  have e2 : Q ^ k * addLo x y c + Q ^ k * Q * addCy x y c = Q ^ k * x + Q ^ k * y + Q ^ k * c := by
    rw [Nat.mul_assoc, ← Nat.mul_add, e, Nat.mul_add, Nat.mul_add]
  omega

/-- What holds of the sum behind k rounds. -/
def AddRel (w : World) (M : Nat) (xs ys : List Nat) (cv iv : Value) (wr : World) : Prop :=
  ∃ (k cc : Nat) (zs : List Nat), k ≤ M + 1 ∧ iv = .int .i64 (k : Int) ∧ cv = .int .u64 (cc : Int) ∧ cc ≤ 1 ∧ zs.length = k ∧ Dg Q zs ∧
    Hid (vl Q zs + Q ^ k * cc = vl Q (xs.take k) + vl Q (ys.take k)) ∧
    Row .u64 71 wr w.heap.size 0 (madeCells #[.int .u64 0] (M + 1)) (zs ++ List.replicate (M + 1 - k) 0) ∧ Below w.heap.size w wr

theorem add_end {w wr : World} {M cc : Nat} {xs ys zs : List Nat} (hn : xs.length ≤ M) (hm : ys.length ≤ M) (dx : Dg Q xs) (dy : Dg Q ys) (hM : M + 1 ≤ maxLen) (hz : zs.length = M + 1) (dz : Dg Q zs)
    (hv : Hid (vl Q zs + Q ^ (M + 1) * cc = vl Q (xs.take (M + 1)) + vl Q (ys.take (M + 1))))
    (hr : Row .u64 71 wr w.heap.size 0 (madeCells #[.int .u64 0] (M + 1)) zs) (hb : Below w.heap.size w wr) :
    OwnRet .u64 71 w (cn Q (vl Q xs + vl Q ys)) (.returned (clipV (some ⟨w.heap.size, 0, none⟩) (tz zs).length (M + 1))) wr := by
  have e := hv.out
  rw [List.take_of_length_le (by omega), List.take_of_length_le (by omega)] at e
  have hc : cc = 0 := by
    rcases Nat.eq_zero_or_pos cc with h | h
    · exact h
    · have h1 := vl_lt dx
      have h2 := vl_lt dy
      have h3 : Q ^ xs.length ≤ Q ^ M := Nat.pow_le_pow_right Q_pos hn
      have h4 : Q ^ ys.length ≤ Q ^ M := Nat.pow_le_pow_right Q_pos hm
      have h5 : Q ^ (M + 1) * 1 ≤ Q ^ (M + 1) * cc := Nat.mul_le_mul_left _ h
      have h6 : Q ^ (M + 1) = Q ^ M * Q := Nat.pow_succ ..
      have h7 : Q ^ M * 2 ≤ Q ^ M * Q := Nat.mul_le_mul_left _ Q_two
      omega
  subst hc
  rw [Nat.mul_zero, Nat.add_zero] at e
  rw [← e, cn_vl Q_two dz]
  exact ⟨_, rfl, own_clip hr (Nat.le_refl _) (by rw [size_madeCells]) hM, hb⟩

set_option maxHeartbeats 1000000 in
theorem add_any (A D : Option Addr) (n c m d : Nat) (xs ys : List Nat) (w : World) (hx : Rd .u64 w w.heap.size A n xs) (hy : Rd .u64 w w.heap.size D m ys)
    (dx : Dg Q xs) (dy : Dg Q ys) (hn : n ≤ 17592186044416) (hm : m ≤ 17592186044416) :
    Calls Tryd.prog 67 #[.slice A n c, .slice D m d] w (OwnRet .u64 71 w (cn Q (vl Q xs + vl Q ys))) := by
  have hnl : n ≤ maxLen := by unfold maxLen; omega
  have hml : m ≤ maxLen := by unfold maxLen; omega
  have lx := hx.1
  have ly := hy.1
  obtain ⟨M, hM⟩ : ∃ M, M = max n m := ⟨_, rfl⟩
  have hxM : xs.length ≤ M := by omega
  have hyM : ys.length ≤ M := by omega
  have hMl : M + 1 ≤ maxLen := by unfold maxLen; omega
  have hMb : M ≤ 17592186044416 := by omega
  have hmk := make_u64 (M + 1) (by omega)
  rw [Int.natCast_succ] at hmk
  clear lx ly
  rcases Nat.lt_or_ge n m with hnm | hnm
  case' inl => obtain rfl : M = m := by omega
  case' inr => obtain rfl : M = n := by omega
  all_goals
    have e0 : Hid (vl Q ([] : List Nat) + Q ^ 0 * 0 = vl Q (xs.take 0) + vl Q (ys.take 0)) := hide (by simp [vl])
    clear hM
    go_enter Tryd.func67, Tryd.ntmps67
    go_wp2_with fail
    go_loopw [6, 17] (fun cv iv wr => AddRel w M xs ys cv iv wr) (fun _ iv _ => M + 1 - (intOf iv).toNat)
    case atStart => exact ⟨0, 0, [], by omega, rfl, rfl, by omega, rfl, Dg.nil, e0, by simpa using Row.made w .u64 71 (M + 1), (Below.refl _ _).alloc (Nat.le_refl _) _⟩
    case round =>
      obtain ⟨k, cc, zs, hk, rfl, rfl, hcc, hz, dz, hv, hrow, hbel⟩ := hrel
      clear hmk
      by_cases hlt : k < M + 1
      · obtain ⟨r, hr⟩ : ∃ r, M + 1 - k = r + 1 := ⟨M - k, by omega⟩
        rw [hr] at hrow
        obtain ⟨x, ex⟩ : ∃ x, Hid (xs.getD k 0 = x) := ⟨_, hide rfl⟩
        obtain ⟨y, ey⟩ : ∃ y, Hid (ys.getD k 0 = y) := ⟨_, hide rfl⟩
        have hst := hrow.set_ (j := k) (by rw [fill_len]; omega) (addLo x y cc)
        have hcell := hrow.cell (j := k) (by rw [fill_len]; omega)
        have hfr := hrow.frozen k
        rw [Nat.zero_add] at hst hcell
        have ez : (zs ++ List.replicate (r + 1) 0).set k (addLo x y cc) = zs ++ [addLo x y cc] ++ List.replicate (M + 1 - (k + 1)) 0 := by
          rw [← hz, fill_set, hz]; congr 2; omega
        rw [ez] at hst
        have hv2 := hide (add_step hz ex.out ey.out hv.out)
        have hx2 := hx.below hbel (Nat.le_refl _)
        have hy2 := hy.below hbel (Nat.le_refl _)
        have hcy := addCy_le (x := x) (y := y) (by rw [← ex.out]; exact dx.getD Q_pos k) (by rw [← ey.out]; exact dy.getD Q_pos k) hcc
        have hb2 := hbel.setCell (p := ⟨w.heap.size, k, none⟩) (Nat.le_refl _) (.int .u64 ((addLo x y cc : Nat) : Int))
        have hz2 : (zs ++ [addLo x y cc]).length = k + 1 := by simp [hz]
        have dz2 : Dg Q (zs ++ [addLo x y cc]) := dz.append (Dg.cons (addLo_lt _ _ _) Dg.nil)
        obtain ⟨v0, hcell⟩ : ∃ v0 : Int, wr.cell? ⟨w.heap.size, k, none⟩ = some (.int .u64 v0) := ⟨_, hcell⟩
        have fin : AddRel w M xs ys (.int .u64 ((addCy x y cc : Nat) : Int)) (.int .i64 ((k + 1 : Nat) : Int)) (wr.setCell ⟨w.heap.size, k, none⟩ (.int .u64 ((addLo x y cc : Nat) : Int))) :=
          ⟨k + 1, addCy x y cc, _, by omega, rfl, rfl, hcy, hz2, dz2, hv2, hst, hb2⟩
        clear hst hv2 hb2 hz2 dz2 ez hr hrow hv hbel hz dz dx dy hxM hyM
        go_wp2_with (first
          | (go_at_call 76; (with_reducible refine (at_get w.heap.size A _ c xs k x _ hx2 hnl ex).mono ?_); rintro e w' ⟨rfl, rfl⟩)
          | (go_at_call 76; (with_reducible refine (at_get w.heap.size D _ d ys k y _ hy2 hml ey).mono ?_); rintro e w' ⟨rfl, rfl⟩)
          | simp only [add64 x y cc hcc])
        go_roundw
        case rel => exact fin
        case measure => simp [intOf]; omega
      · obtain rfl : k = M + 1 := by omega
        simp only [Nat.sub_self, List.replicate_zero, List.append_nil] at hrow
        have hcl := clip_any (w.heap.size + 1) (some ⟨w.heap.size, 0, none⟩) (M + 1) (M + 1) zs wr ⟨hz, fun _ => ⟨_, _, rfl, by omega, fun j hj => hrow.cell (by omega)⟩⟩ (Nat.le_refl _) hMl
        have fin := add_end hxM hyM dx dy hMl hz dz hv hrow hbel
        clear hz dz hv hrow hbel hx hy dx dy hxM hyM
        go_wp2_with (go_at_call 50; refine hcl.mono ?_; rintro e w' ⟨rfl, rfl⟩)
        go_ret
        exact fin
end Go.Proofs.YtkonakjchimniaaDoor
