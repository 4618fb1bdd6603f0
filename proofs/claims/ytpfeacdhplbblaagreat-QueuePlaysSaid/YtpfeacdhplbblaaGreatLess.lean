
/-
  nat.lessTimes: what it answers is exact, where it is neither below 0 nor too long.
-/
import Derived.Test.YtpfeacdhplbblaaGreatLeap

namespace Go.Proofs.YtpfeacdhplbblaaGreat
open Go.RowKit Go.Proofs.YtpfeacdhplbblaaGreat.Num
set_option linter.unusedVariables false
set_option maxRecDepth 100000
def LtRel (w : World) (M v x : Nat) (xs ys : List Nat) (av bv cv iv : Value) (wr : World) : Prop :=
  ∃ (k oA oB br : Nat) (us : List Nat), k ≤ M ∧ iv = .int .i64 (k : Int) ∧ av = .int .u64 (oA : Int) ∧ bv = .int .u64 (oB : Int) ∧ cv = .int .u64 (br : Int) ∧ oA < Q ∧ oB < Q ∧ br ≤ 1 ∧ us.length = k ∧ Dg Q us ∧
    Hid (vl Q us + x * vl Q (ys.take k) + Q ^ k * oA = v * vl Q (xs.take k) + Q ^ k * (oB + br)) ∧
    Row .u64 62 wr w.heap.size 0 (madeCells #[.int .u64 0] M) (us ++ List.replicate (M - k) 0) ∧ Below w.heap.size w wr
set_option maxHeartbeats 4000000 in
theorem less_any (A D : Option Addr) (n c m d v x Z : Nat) (xs ys : List Nat) (w : World) (hx : Rd .u64 w w.heap.size A n xs) (hy : Rd .u64 w w.heap.size D m ys)
    (dx : Dg Q xs) (dy : Dg Q ys) (hn : n ≤ 17592186044416) (hm : m ≤ 17592186044416) (hv : v < Q) (hw : x < Q) (hd : v * vl Q xs = x * vl Q ys + Z) (hZ : Z < Q ^ max n m) :
    Calls Tryz.prog 119 #[.int .u64 (v : Int), .slice A n c, .int .u64 (x : Int), .slice D m d] w (OwnRet .u64 62 w (cn Q Z)) := by
  have hnl : n ≤ maxLen := by unfold maxLen; omega
  have hml : m ≤ maxLen := by unfold maxLen; omega
  have lx := hx.1
  have ly := hy.1
  obtain ⟨M, hM⟩ : ∃ M, M = max n m := ⟨_, rfl⟩
  rw [← hM] at hZ
  have HZ := hide hZ
  have HD := hide hd
  clear hZ hd
  have hxM : xs.length ≤ M := by omega
  have hyM : ys.length ≤ M := by omega
  have hMl : M ≤ maxLen := by unfold maxLen; omega
  have hMb : M ≤ 35184372088832 := by omega
  have hmk := make_u64 M (by omega)
  clear lx ly
  rcases Nat.lt_or_ge n m with hnm | hnm
  case' inl => obtain rfl : M = m := by omega
  case' inr => obtain rfl : M = n := by omega
  all_goals
    have e0 : Hid (vl Q ([] : List Nat) + x * vl Q (ys.take 0) + Q ^ 0 * 0 = v * vl Q (xs.take 0) + Q ^ 0 * (0 + 0)) := hide (by simp [vl])
    clear hM
    go_enter Tryz.func119, Tryz.ntmps119
    go_wp2_with fail
    go_loopw [10, 11, 12, 28] (fun av bv cv iv wr => LtRel w M v x xs ys av bv cv iv wr) (fun _ _ _ iv _ => M - (intOf iv).toNat)
    case atStart => exact ⟨0, 0, 0, 0, [], by omega, rfl, rfl, rfl, rfl, Q_pos, Q_pos, by omega, rfl, Dg.nil, e0, by simpa using Row.made w .u64 62 M, (Below.refl _ _).alloc (Nat.le_refl _) _⟩
    case round =>
      obtain ⟨k, oA, oB, br, us, hk, rfl, rfl, rfl, rfl, hoA, hoB, hbr, hu, du, hi, hrow, hbel⟩ := hrel
      clear hmk
      by_cases hlt : k < M
      · obtain ⟨r, hr⟩ : ∃ r, M - k = r + 1 := ⟨M - k - 1, by omega⟩
        rw [hr] at hrow
        obtain ⟨p, ex⟩ : ∃ p, Hid (xs.getD k 0 = p) := ⟨_, hide rfl⟩
        obtain ⟨q, ey⟩ : ∃ q, Hid (ys.getD k 0 = q) := ⟨_, hide rfl⟩
        have bp : p < Q := by rw [← ex.out]; exact dx.getD Q_pos k
        have bq : q < Q := by rw [← ey.out]; exact dy.getD Q_pos k
        have hi2 := hide (less_step hu ex.out ey.out hbr hi.out)
        have b1 := less_bound hv bp hoA
        have b2 := less_bound hw bq hoB
        have hm1 := mul64 v p hv bp
        have hm2 := mul64 x q hw bq
        have a1 := add64_0 (mulLo v p) oA
        have a2 := add64_0 (mulLo x q) oB
        have s1 := sub64 (addLo (mulLo v p) oA 0) (addLo (mulLo x q) oB 0) br hbr
        have bo := subLo_lt (addLo (mulLo v p) oA 0) (addLo (mulLo x q) oB 0) br
        have bc := subBw_le (addLo (mulLo v p) oA 0) (addLo (mulLo x q) oB 0) br
        generalize subLo (addLo (mulLo v p) oA 0) (addLo (mulLo x q) oB 0) br = z at *
        generalize subBw (addLo (mulLo v p) oA 0) (addLo (mulLo x q) oB 0) br = br2 at *
        generalize addLo (mulLo v p) oA 0 = l1 at *
        generalize addCy (mulLo v p) oA 0 = c1 at *
        generalize mulLo v p = m1 at *
        generalize mulHi v p = h1 at *
        generalize addLo (mulLo x q) oB 0 = l2 at *
        generalize addCy (mulLo x q) oB 0 = c2 at *
        generalize mulLo x q = m2 at *
        generalize mulHi x q = h2 at *
        have hst := hrow.set_ (j := k) (by rw [fill_len]; omega) z
        have hcell := hrow.cell (j := k) (by rw [fill_len]; omega)
        have hfr := hrow.frozen k
        rw [Nat.zero_add] at hst hcell
        have ez : (us ++ List.replicate (r + 1) 0).set k z = us ++ [z] ++ List.replicate (M - (k + 1)) 0 := by
          rw [← hu, fill_set, hu]; congr 2; omega
        rw [ez] at hst
        have hx2 := hx.below hbel (Nat.le_refl _)
        have hy2 := hy.below hbel (Nat.le_refl _)
        have hb2 := hbel.setCell (p := ⟨w.heap.size, k, none⟩) (Nat.le_refl _) (.int .u64 ((z : Nat) : Int))
        obtain ⟨v0, hcell⟩ : ∃ v0 : Int, wr.cell? ⟨w.heap.size, k, none⟩ = some (.int .u64 v0) := ⟨_, hcell⟩
        have fin : LtRel w M v x xs ys (.int .u64 ((h1 + c1 : Nat) : Int)) (.int .u64 ((h2 + c2 : Nat) : Int)) (.int .u64 (br2 : Int)) (.int .i64 ((k + 1 : Nat) : Int)) (wr.setCell ⟨w.heap.size, k, none⟩ (.int .u64 ((z : Nat) : Int))) :=
          ⟨k + 1, h1 + c1, h2 + c2, br2, us ++ [z], by omega, rfl, rfl, rfl, rfl, b1, b2, bc, by simp [hu], du.append (Dg.cons bo Dg.nil), hi2, hst, hb2⟩
        have i1 : (h1 : Int) + (c1 : Int) ≤ 18446744073709551615 := by unfold Q at b1; omega
        have i2 : (h2 : Int) + (c2 : Int) ≤ 18446744073709551615 := by unfold Q at b2; omega
        clear hst hi2 hb2 ez hr hrow hi hbel hu du dx dy hxM hyM HZ HD e0 b1 b2 bo bc bp bq hoA hoB
        go_wp2_with (first
          | (go_at_call 96; (with_reducible refine (at_get w.heap.size A _ c xs k p _ hx2 hnl ex).mono ?_); rintro e w' ⟨rfl, rfl⟩)
          | (go_at_call 96; (with_reducible refine (at_get w.heap.size D _ d ys k q _ hy2 hml ey).mono ?_); rintro e w' ⟨rfl, rfl⟩)
          | (go_at_call 113; (with_reducible refine (hm1 _).mono ?_); rintro e w' ⟨rfl, rfl⟩)
          | (go_at_call 113; (with_reducible refine (hm2 _).mono ?_); rintro e w' ⟨rfl, rfl⟩))
        go_roundw
        case rel => exact fin
        case measure => simp [intOf]; omega
      · obtain rfl : k = M := by omega
        simp only [Nat.sub_self, List.replicate_zero, List.append_nil] at hrow
        have hcl := clip_any (w.heap.size + 1) (some ⟨w.heap.size, 0, none⟩) k k us wr ⟨hu, fun _ => ⟨_, _, rfl, by omega, fun j hj => hrow.cell (by omega)⟩⟩ (Nat.le_refl _) hMl
        have e := less_end hxM hyM hu du hi.out HD.out HZ.out
        have fin : OwnRet .u64 62 w (cn Q Z) (.returned (clipV (some ⟨w.heap.size, 0, none⟩) (tz us).length k)) wr := by
          rw [← e, cn_vl Q_two du]
          exact ⟨_, rfl, own_clip hrow (Nat.le_refl _) (by rw [size_madeCells]) hMl, hbel⟩
        clear hu du hi hrow hbel hx hy dx dy hxM hyM HZ HD e e0
        go_wp2_with (go_at_call 90; refine hcl.mono ?_; rintro e w' ⟨rfl, rfl⟩)
        go_ret
        exact fin
end Go.Proofs.YtpfeacdhplbblaaGreat
