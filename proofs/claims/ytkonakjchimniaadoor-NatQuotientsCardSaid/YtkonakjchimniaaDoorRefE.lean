/-
  The document's own answer: the product.
-/
import Derived.Test.YtkonakjchimniaaDoorRefD
namespace Go.Proofs.YtkonakjchimniaaDoor
open Go.RowKit Go.Proofs.YtkonakjchimniaaDoor.Num
set_option linter.unusedVariables false
set_option maxRecDepth 100000

theorem make_int (n : Nat) (hn : n ≤ 1700000000000) (u : World) : (Instr.makeSlice 29 (.int .i64 (n : Int)) (.int .i64 (n : Int))).run Tryd.prog u =
    .ok (.slice (some ⟨u.heap.size, 0, none⟩) n n) (u.alloc (.cells (madeCells #[.int .i64 0] n) 3)) := by
  obtain ⟨i0, hi, hz0, hz1, hz2⟩ := info_parts info_int
  have h := run_make (P := Tryd.prog) u 29 3 i0 (.int .i64 0) Tryd.underlying29 hi hz0 .i64 .i64 (n : Int) (n : Int) (by omega) (Int.le_refl _) (by rw [hz2]; omega) (by omega)
  have e : (n : Int).toNat = n := by omega
  rw [e] at h
  simpa [hz1, Value.cells] using h

theorem vl_set (B : Nat) : ∀ (us : List Nat) (j x : Nat), j < us.length → vl B (us.set j x) + B ^ j * us.getD j 0 = vl B us + B ^ j * x
  | [], j, x, h => absurd h (by simp)
  | u :: us, 0, x, _ => by simp [vl]; omega
  | u :: us, j + 1, x, h => by
    have h1 := vl_set B us j x (by simpa using h)
    have h2 := congrArg (B * ·) h1
    simp only [Nat.mul_add] at h2
    simp only [List.set_cons_succ, vl, List.getD_cons_succ, Nat.pow_succ]
    rw [Nat.mul_comm (B ^ j) B, Nat.mul_assoc, Nat.mul_assoc]
    omega

theorem rmul_step {B i k u x y cc lo cy V : Nat} {us ys : List Nat} (hl : i + k < us.length) (hu : us.getD (i + k) 0 = u) (hy : ys.getD k 0 = y) (e : lo + B * cy = u + x * y + cc)
    (h : vl B us + B ^ (i + k) * cc = V + B ^ i * x * vl B (ys.take k)) :
    vl B (us.set (i + k) lo) + B ^ (i + (k + 1)) * cy = V + B ^ i * x * vl B (ys.take (k + 1)) := by
  have h1 := vl_set B us (i + k) lo hl
  rw [hu] at h1
  have e1 : B ^ (i + (k + 1)) * cy = B ^ (i + k) * (B * cy) := by rw [← Nat.add_assoc, Nat.pow_succ, Nat.mul_assoc]
  have e2 : B ^ i * x * vl B (ys.take (k + 1)) = B ^ i * x * vl B (ys.take k) + B ^ (i + k) * (x * y) := by
    rw [vl_take_succ, hy, Nat.mul_add, Nat.pow_add]
    congr 1
    rw [Nat.mul_assoc, Nat.mul_assoc]
    congr 1
    rw [Nat.mul_left_comm]
  rw [e1, e2]
  have e3 := congrArg (B ^ (i + k) * ·) e
  simp only [Nat.mul_add] at e3
  generalize B ^ (i + k) = P at *
  generalize B ^ i * x * vl B (ys.take k) = T at *
  omega

theorem rmul_row {B i x : Nat} {xs : List Nat} (Y : Nat) (hx : xs.getD i 0 = x) : vl B (xs.take i) * Y + B ^ i * x * Y = vl B (xs.take (i + 1)) * Y := by
  rw [vl_take_succ, hx, Nat.add_mul]

theorem rmul_top {i m cc x : Nat} {us xs ys : List Nat} (hx : xs.getD i 0 = x) (hi : i < xs.length) (hm : ys.length = m) (dx : Dg 10000 xs) (dy : Dg 10000 ys)
    (h : vl 10000 us + 10000 ^ (i + (m + 1)) * cc = vl 10000 (xs.take i) * vl 10000 ys + 10000 ^ i * x * vl 10000 (ys.take (m + 1))) : cc = 0 := by
  rw [List.take_of_length_le (show ys.length ≤ m + 1 by omega), rmul_row _ hx] at h
  rcases Nat.eq_zero_or_pos cc with h0 | h0
  · exact h0
  · have h1 := vl_lt (dx.take (i + 1))
    rw [List.length_take, Nat.min_eq_left (by omega)] at h1
    have h2 := vl_lt dy
    rw [hm] at h2
    have h3 := Nat.mul_lt_mul'' h1 h2
    rw [← Nat.pow_add, show i + 1 + m = i + (m + 1) by omega] at h3
    have h4 : 10000 ^ (i + (m + 1)) * 1 ≤ 10000 ^ (i + (m + 1)) * cc := Nat.mul_le_mul_left _ h0
    generalize 10000 ^ (i + (m + 1)) = P at *
    omega

def RmIn (t : TypeId) (w : World) (N i x m V : Nat) (ys : List Nat) (cv kv : Value) (wr : World) : Prop :=
  ∃ (k cc : Nat) (us : List Nat), k ≤ m + 1 ∧ Hid (k = m + 1 → cc = 0) ∧ cc < 10000 ∧ kv = .int .i64 (k : Int) ∧ cv = .int .i64 (cc : Int) ∧ Hid (us.length = N) ∧ Dg 10000 us ∧
    Hid (vl 10000 us + 10000 ^ (i + k) * cc = V + 10000 ^ i * x * vl 10000 (ys.take k)) ∧ Row .i64 t wr w.heap.size 0 (madeCells #[.int .i64 0] N) us ∧ Below w.heap.size w wr
def RmOut (t : TypeId) (w : World) (N n Y : Nat) (xs : List Nat) (iv : Value) (wr : World) : Prop :=
  ∃ (i : Nat) (us : List Nat), i ≤ n ∧ iv = .int .i64 (i : Int) ∧ Hid (us.length = N) ∧ Dg 10000 us ∧ Hid (vl 10000 us = vl 10000 (xs.take i) * Y) ∧
    Row .i64 t wr w.heap.size 0 (madeCells #[.int .i64 0] N) us ∧ Below w.heap.size w wr

set_option maxHeartbeats 4000000 in
theorem rmul_any (A D : Option Addr) (n c m d : Nat) (xs ys : List Nat) (w : World) (hx : Rd .i64 w w.heap.size A n xs) (hy : Rd .i64 w w.heap.size D m ys)
    (dx : Dg 10000 xs) (dy : Dg 10000 ys) (hn : n ≤ 400000000000) (hm : m ≤ 400000000000) :
    Calls Tryd.prog 60 #[.slice A n c, .slice D m d] w (OwnRet .i64 3 w (cn 10000 (vl 10000 xs * vl 10000 ys))) := by
  have hml : m ≤ maxLen := by unfold maxLen; omega
  have hmk := make_int (n + m + 1) (by omega)
  rw [Int.natCast_succ, Int.natCast_add] at hmk
  obtain ⟨N, hN⟩ : ∃ N, n + m + 1 = N := ⟨_, rfl⟩
  have eN : (n : Int) + (m : Int) + 1 = (N : Int) := by omega
  rw [hN, eN] at hmk
  have hNb : N ≤ 800000000001 := by omega
  have Dx := hide dx
  have Dy := hide dy
  have HN := hide hN
  obtain ⟨Y, hY⟩ : ∃ Y, Hid (vl 10000 ys = Y) := ⟨_, hide rfl⟩
  clear dx dy hN
  have e0 : Hid (vl 10000 (List.replicate N 0) = vl 10000 (xs.take 0) * Y) := hide (by rw [vl_replicate]; simp [vl])
  go_enter Tryd.func60, Tryd.ntmps60
  go_wp2_with fail
  go_loopw [6] (fun iv wr => RmOut 3 w N n Y xs iv wr) (fun iv _ => n - (intOf iv).toNat)
  case atStart =>
    exact ⟨0, List.replicate N 0, Nat.zero_le _, rfl, hide (by simp), Dg.replicate (by omega) N, e0, Row.made w .i64 3 N, (Below.refl _ _).alloc (Nat.le_refl _) _⟩
  case round =>
    obtain ⟨i, us, hi, rfl, hul, du, hv, hrow, hbel⟩ := hrel
    clear hmk e0
    by_cases hlt : i < n
    · obtain ⟨x, ex⟩ : ∃ x, Hid (xs.getD i 0 = x) := ⟨_, hide rfl⟩
      have bx : x < 10000 := by rw [← ex.out]; exact Dx.out.getD (by omega) i
      obtain ⟨V, hV⟩ : ∃ V, Hid (vl 10000 (xs.take i) * Y = V) := ⟨_, hide rfl⟩
      have e1 : Hid (vl 10000 us + 10000 ^ (i + 0) * 0 = V + 10000 ^ i * x * vl 10000 (ys.take 0)) := hide (by rw [hv.out, hV.out]; simp [vl])
      have Du := hide du
      have Hrow := hide hrow
      have Hbel := hide hbel
      clear hv du hrow hbel
      go_wp2_with fail
      go_loopw [7, 8] (fun cv kv wr => RmIn 3 w N i x m V ys cv kv wr) (fun _ kv _ => m + 1 - (intOf kv).toNat)
      case atStart => exact ⟨0, 0, us, Nat.zero_le _, hide (fun _ => rfl), by omega, rfl, rfl, hul, Du.out, e1, Hrow.out, Hbel.out⟩
      case round =>
        clear e1 hul Du Hrow Hbel us
        obtain ⟨k, cc, us, hk, htop, hcc, rfl, rfl, hul, du, hv, hrow, hbel⟩ := hrel
        by_cases hgo : k < m ∨ 0 < cc
        · have hkm : k ≤ m := by
            rcases Nat.lt_or_ge m k with h | h
            · have := htop.out (by omega)
              omega
            · exact h
          have hjl : i + k < us.length := by rw [hul.out]; have := HN.out; omega
          obtain ⟨u, eu⟩ : ∃ u, Hid (us.getD (i + k) 0 = u) := ⟨_, hide rfl⟩
          obtain ⟨y, ey⟩ : ∃ y, Hid (ys.getD k 0 = y) := ⟨_, hide rfl⟩
          have bu : u < 10000 := by rw [← eu.out]; exact du.getD (by omega) _
          have bY : y < 10000 := by rw [← ey.out]; exact Dy.out.getD (by omega) k
          obtain ⟨p, hp⟩ : ∃ p, x * y = p := ⟨_, rfl⟩
          have bp : p ≤ 99980001 := by rw [← hp]; exact Nat.mul_le_mul (show x ≤ 9999 by omega) (show y ≤ 9999 by omega)
          obtain ⟨lo, hlo⟩ : ∃ lo, (u + p + cc) % 10000 = lo := ⟨_, rfl⟩
          obtain ⟨cy, hcy⟩ : ∃ cy, (u + p + cc) / 10000 = cy := ⟨_, rfl⟩
          have hlb : lo < 10000 := by omega
          have hcb : cy < 10000 := by omega
          have hv2 := rmul_step (lo := lo) (cy := cy) hjl eu.out ey.out (by rw [hp]; omega) hv.out
          have htop2 : Hid (k + 1 = m + 1 → cy = 0) := hide (fun h => by
            rw [h, ← hV.out, ← hY.out] at hv2
            exact rmul_top ex.out (by have := hx.1; omega) hy.1 Dx.out Dy.out hv2)
          have Hv2 := hide hv2
          have er : Int.tmod ((u : Int) + (p : Int) + (cc : Int)) 10000 = (lo : Int) := by rw [← hlo]; exact (Int.ofNat_tmod (u + p + cc) 10000).symm
          have eq : Int.tdiv ((u : Int) + (p : Int) + (cc : Int)) 10000 = (cy : Int) := by rw [← hcy]; exact (Int.ofNat_tdiv (u + p + cc) 10000).symm
          have exy : (x : Int) * (y : Int) = (p : Int) := by rw [← hp, Int.natCast_mul]
          obtain ⟨j, hj⟩ : ∃ j, i + k = j := ⟨_, rfl⟩
          have ej : IntKind.i64.wrap ((i : Int) + (k : Int)) = (j : Int) := by rw [IntWalk.i64_in _ (by omega)]; omega
          have ep : IntKind.i64.wrap ((x : Int) * (y : Int)) = (p : Int) := by rw [exy, IntWalk.i64_in _ (by omega)]
          have es : IntKind.i64.wrap ((u : Int) + (p : Int)) = (u : Int) + (p : Int) := IntWalk.i64_in _ (by omega)
          have es2 : IntKind.i64.wrap ((u : Int) + (p : Int) + (cc : Int)) = (u : Int) + (p : Int) + (cc : Int) := IntWalk.i64_in _ (by omega)
          have hcu := hrow.cell hjl
          have hfr := hrow.frozen (0 + (i + k))
          have hst := hrow.set_ hjl lo
          rw [eu.out] at hcu
          rw [hj] at hcu hfr hst Hv2 hjl
          rw [Nat.zero_add] at hcu hfr hst
          have hjN : (j : Int) < (N : Int) := by have := hul.out; omega
          have hul2 : Hid ((us.set j lo).length = N) := hide (by rw [List.length_set]; exact hul.out)
          have du2 : Dg 10000 (us.set j lo) := du.set j hlb
          have hx2 := hx.below hbel (Nat.le_refl _)
          have hy2 := hy.below hbel (Nat.le_refl _)
          obtain ⟨b, o, rfl, _, hcx⟩ := hx2.at_ hlt
          rw [ex.out] at hcx
          have hb2 : ∀ nq, Below w.heap.size w ((wr.drewN nq).setCell ⟨w.heap.size, j, none⟩ (.int .i64 (lo : Int))) := fun nq => (below_drewN hbel nq).setCell (Nat.le_refl _) _
          have fin : ∀ nq, RmIn 3 w N i x m V ys (.int .i64 (cy : Int)) (.int .i64 ((k + 1 : Nat) : Int)) ((wr.drewN nq).setCell ⟨w.heap.size, j, none⟩ (.int .i64 (lo : Int))) := fun nq =>
            ⟨k + 1, cy, _, by omega, htop2, hcb, rfl, rfl, hul2, du2, Hv2, (by have h9 := hrow.drewN nq; have h8 := h9.set_ hjl lo; rw [Nat.zero_add] at h8; exact h8), hb2 nq⟩
          have hjb : j ≤ 800000000000 := by omega
          clear hst hb2 hul2 du2 Hv2 htop2 hv2 hv hul du htop hrow hbel hx2 hlo hcy hp exy bu bY bp Dx Dy HN hjl hV hj
          have hsplit : k < m ∨ (m ≤ k ∧ 0 < cc) := by omega
          clear hgo
          rcases hsplit with h1 | ⟨h1, h2⟩
          all_goals
            go_wp2_with fail
            go_quiet ((go_at_call 93; exact Calls.quiet_of_same ((place_any w.heap.size D _ d k y ys _ (hy2.drewN _) hml ey).mono fun _ _ h => ⟨h.1, h.2.symm⟩)))
            go_wp2_with fail
            go_roundw
            case rel => exact fin _
            case measure => simp [intOf]; omega
        · obtain rfl : cc = 0 := by omega
          have hkm : m ≤ k := by omega
          have e := hv.out
          rw [Nat.mul_zero, Nat.add_zero, List.take_of_length_le (by have := hy.1; omega), hY.out, ← hV.out, rmul_row _ ex.out] at e
          have fin : RmOut 3 w N n Y xs (.int .i64 ((i + 1 : Nat) : Int)) wr := ⟨i + 1, us, by omega, rfl, hul, du, hide e, hrow, hbel⟩
          clear hv e htop hul du hrow hbel hgo Dx Dy HN hV hx hy
          go_wp2_with fail
          go_roundw
          case rel => exact fin
          case measure => simp [intOf]; omega
    · obtain rfl : i = n := by omega
      have e := hv.out
      rw [List.take_of_length_le (by have := hx.1; omega), ← hY.out] at e
      have hL := hul.out
      have r1 : Rd .i64 wr wr.heap.size (some ⟨w.heap.size, 0, none⟩) N us := ⟨hL, fun _ => ⟨_, _, rfl, hrow.lt, fun j hj => hrow.cell (by omega)⟩⟩
      have ht := rtrim_any (some ⟨w.heap.size, 0, none⟩) N N us wr r1 (by omega)
      have etz : tz us = cn 10000 (vl 10000 xs * vl 10000 ys) := by rw [← e, cn_vl (by omega) du]
      rw [etz] at ht
      obtain ⟨S, hS⟩ : ∃ S, Hid (cn 10000 (vl 10000 xs * vl 10000 ys) = S) := ⟨_, hide rfl⟩
      rw [hS.out] at ht
      have Hb := hide hbel
      clear hL e etz du hv hul hrow hbel r1 hx hy hY HN Dx Dy hlt
      go_wp2_with (go_at_call 61; refine ht.mono ?_; rintro e w' ⟨v, rfl, ho, hb⟩)
      go_ret
      have fo := ho.mono Hb.out.size
      have fb := Hb.out.trans (hb.mono Hb.out.size)
      rw [← hS.out] at fo
      exact ⟨_, rfl, fo, fb⟩
end Go.Proofs.YtkonakjchimniaaDoor
