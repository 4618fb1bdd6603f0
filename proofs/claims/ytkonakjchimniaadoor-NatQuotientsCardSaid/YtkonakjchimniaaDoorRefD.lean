/-
  The document's own answer: the difference.
-/
import Derived.Test.YtkonakjchimniaaDoorRefC
import Derived.Deep.QuietTactic
import Derived.BigQuiet
import Derived.IntWalk
namespace Go.Proofs.YtkonakjchimniaaDoor
open Go.RowKit Go.Proofs.YtkonakjchimniaaDoor.Num
set_option linter.unusedVariables false
set_option maxRecDepth 100000

theorem rsub_step {k x y c lo cy : Nat} {zs xs ys : List Nat} (hz : zs.length = k) (hx : xs.getD k 0 = x) (hy : ys.getD k 0 = y) (e : lo + y + c = x + 10000 * cy)
    (h : vl 10000 zs + vl 10000 (ys.take k) = vl 10000 (xs.take k) + 10000 ^ k * c) :
    vl 10000 (zs ++ [lo]) + vl 10000 (ys.take (k + 1)) = vl 10000 (xs.take (k + 1)) + 10000 ^ (k + 1) * cy := by
  rw [vl_snoc, hz, vl_take_succ, vl_take_succ, hx, hy, Nat.pow_succ]
  have e2 : 10000 ^ k * lo + 10000 ^ k * y + 10000 ^ k * c = 10000 ^ k * x + 10000 ^ k * 10000 * cy := by
    rw [Nat.mul_assoc, ← Nat.mul_add, ← Nat.mul_add, e, Nat.mul_add]
  omega
theorem rsub_end {n cc : Nat} {xs ys zs : List Nat} (hx : xs.length = n) (dx : Dg 10000 xs) (hz : zs.length = n) (dz : Dg 10000 zs) (hle : vl 10000 ys ≤ vl 10000 xs)
    (e : vl 10000 zs + vl 10000 (ys.take n) = vl 10000 (xs.take n) + 10000 ^ n * cc) : vl 10000 zs = vl 10000 xs - vl 10000 ys := by
  rw [List.take_of_length_le (show xs.length ≤ n by omega)] at e
  have h1 := vl_lt dx
  have h2 := vl_lt dz
  rw [hx] at h1
  rw [hz] at h2
  have h3 := vl_cut 10000 ys n
  have h4 : vl 10000 (ys.drop n) = 0 := by
    rcases Nat.eq_zero_or_pos (vl 10000 (ys.drop n)) with h | h
    · exact h
    · have := Nat.mul_le_mul_left (10000 ^ n) h
      omega
  rw [h4, Nat.mul_zero] at h3
  have h5 : cc = 0 := by
    rcases Nat.eq_zero_or_pos cc with h | h
    · exact h
    · have := Nat.mul_le_mul_left (10000 ^ n) h
      omega
  subst h5
  omega

def RsRel (t : TypeId) (w : World) (n : Nat) (xs ys : List Nat) (v cv iv : Value) (wr : World) : Prop :=
  ∃ (k cc : Nat) (zs : List Nat), k ≤ n ∧ cc ≤ 1 ∧ iv = .int .i64 (k : Int) ∧ cv = .int .i64 (cc : Int) ∧ zs.length = k ∧ Dg 10000 zs ∧
    Hid (vl 10000 zs + vl 10000 (ys.take k) = vl 10000 (xs.take k) + 10000 ^ k * cc) ∧ Own .i64 t wr w.heap.size v zs ∧ Below w.heap.size w wr

set_option maxHeartbeats 2000000 in
theorem rsub_any (A D : Option Addr) (n c m d : Nat) (xs ys : List Nat) (w : World) (hx : Rd .i64 w w.heap.size A n xs) (hy : Rd .i64 w w.heap.size D m ys)
    (dx : Dg 10000 xs) (dy : Dg 10000 ys) (hn : n ≤ 800000000000) (hm : m ≤ 800000000000) (hle : vl 10000 ys ≤ vl 10000 xs) :
    Calls Tryd.prog 64 #[.slice A n c, .slice D m d] w (OwnRet .i64 3 w (cn 10000 (vl 10000 xs - vl 10000 ys))) := by
  obtain ⟨i0, hi, hz0, hz1, hz2⟩ := info_parts info_int
  have hml : m ≤ maxLen := by unfold maxLen; omega
  have Dx := hide dx
  have Dy := hide dy
  have Hle := hide hle
  clear dx dy hle
  have e0 : Hid (vl 10000 ([] : List Nat) + vl 10000 (ys.take 0) = vl 10000 (xs.take 0) + 10000 ^ 0 * 0) := hide (by simp [vl])
  go_enter Tryd.func64, Tryd.ntmps64
  go_wp2_with fail
  go_loopw [5, 6, 7] (fun v cv iv wr => RsRel 3 w n xs ys v cv iv wr) (fun _ _ iv _ => n - (intOf iv).toNat)
  case atStart => exact ⟨0, 0, [], by omega, by omega, rfl, rfl, rfl, Dg.nil, e0, own_empty .i64 3 w w.heap.size (Nat.le_refl _), (Below.refl _ _).alloc (Nat.le_refl _) _⟩
  case round =>
    obtain ⟨k, cc, zs, hk, hcc, rfl, rfl, hz, dz, hv, hown, hbel⟩ := hrel
    clear e0
    by_cases hlt : k < n
    · obtain ⟨x, ex⟩ : ∃ x, Hid (xs.getD k 0 = x) := ⟨_, hide rfl⟩
      obtain ⟨y, ey⟩ : ∃ y, Hid (ys.getD k 0 = y) := ⟨_, hide rfl⟩
      have bx : x < 10000 := by rw [← ex.out]; exact Dx.out.getD (by omega) k
      have bY : y < 10000 := by rw [← ey.out]; exact Dy.out.getD (by omega) k
      have hx2 := hx.below hbel (Nat.le_refl _)
      have hy2 := hy.below hbel (Nat.le_refl _)
      obtain ⟨b, o, rfl, _, hcx⟩ := hx2.at_ hlt
      rw [ex.out] at hcx
      have hsz := hbel.size
      have hl : zs.length + 1 ≤ 17592186044416 := by omega
      have Hown := hide hown
      have Hsz := hide hsz
      have Hl := hide hl
      have i1 : (k : Int) < (n : Int) := by omega
      have hnb : (n : Int) ≤ 800000000000 := by omega
      have e1 : IntKind.i64.wrap ((x : Int) - (y : Int)) = (x : Int) - (y : Int) := IntWalk.i64_in _ (by omega)
      by_cases hneg : x < y + cc
      · obtain ⟨lo, hlo⟩ : ∃ lo, lo + y + cc = x + 10000 * 1 := ⟨x + 10000 - y - cc, by omega⟩
        have e2 : IntKind.i64.wrap ((x : Int) - (y : Int) - (cc : Int)) = (lo : Int) - 10000 := by rw [IntWalk.i64_in _ (by omega)]; omega
        have e3 : (lo : Int) - 10000 + 10000 = (lo : Int) := by omega
        have e4 : decide ((lo : Int) - 10000 < 0) = true := decide_eq_true (by omega)
        have hlb : lo < 10000 := by omega
        have hv2 := rsub_step hz ex.out ey.out hlo hv.out
        have fin : ∀ nq u v' w', Own .i64 3 (wr.drewN nq) w.heap.size u zs → Own .i64 3 w' w.heap.size v' (zs ++ [lo]) → (wr.drewN nq).grownBy w' u.ownBlock → RsRel 3 w n xs ys v' (.int .i64 1) (.int .i64 ((k + 1 : Nat) : Int)) w' := by
          intro nq u v' w' hu ho hg
          exact ⟨k + 1, 1, _, by omega, by omega, rfl, rfl, by simp [hz], dz.append (Dg.cons hlb Dg.nil), hide hv2, ho, push_below (below_drewN hbel nq) hu hg hsz⟩
        clear hv hv2 hlo dz hz hx hy hown hbel hl hsz hneg Dx Dy Hle hx2
        go_wp2_with fail
        go_quiet ((go_at_call 93; exact Calls.quiet_of_same ((place_any w.heap.size D _ d k y ys _ (hy2.drewN _) hml ey).mono fun _ _ h => ⟨h.1, h.2.symm⟩)))
        clear e1 e2
        go_wp2_with (at_builtin; go_must (refine wpList_push rfl (.tmp 30) (.tmp 32) 29 rfl Tryd.underlying29 hi hz0 hz1 hz2 rfl (wr.drewN _) w.heap.size _ zs lo (Hown.out.drewN _) rfl rfl Hl.out (by decide) Hsz.out ?_); intro v' w' ho hg; have fin2 := fin _ _ v' w' (Hown.out.drewN _) ho hg.1; clear fin ho hg)
        go_roundw
        case rel => exact fin2
        case measure => simp [intOf]; omega
      · obtain ⟨lo, hlo⟩ : ∃ lo, lo + y + cc = x + 10000 * 0 := ⟨x - y - cc, by omega⟩
        have e2 : IntKind.i64.wrap ((x : Int) - (y : Int) - (cc : Int)) = (lo : Int) := by rw [IntWalk.i64_in _ (by omega)]; omega
        have e4 : decide ((lo : Int) < 0) = false := decide_eq_false (by omega)
        have hlb : lo < 10000 := by omega
        have hv2 := rsub_step hz ex.out ey.out hlo hv.out
        have fin : ∀ nq u v' w', Own .i64 3 (wr.drewN nq) w.heap.size u zs → Own .i64 3 w' w.heap.size v' (zs ++ [lo]) → (wr.drewN nq).grownBy w' u.ownBlock → RsRel 3 w n xs ys v' (.int .i64 0) (.int .i64 ((k + 1 : Nat) : Int)) w' := by
          intro nq u v' w' hu ho hg
          exact ⟨k + 1, 0, _, by omega, by omega, rfl, rfl, by simp [hz], dz.append (Dg.cons hlb Dg.nil), hide hv2, ho, push_below (below_drewN hbel nq) hu hg hsz⟩
        clear hv hv2 hlo dz hz hx hy hown hbel hl hsz hneg Dx Dy Hle hx2
        go_wp2_with fail
        go_quiet ((go_at_call 93; exact Calls.quiet_of_same ((place_any w.heap.size D _ d k y ys _ (hy2.drewN _) hml ey).mono fun _ _ h => ⟨h.1, h.2.symm⟩)))
        clear e1 e2
        go_wp2_with (at_builtin; go_must (refine wpList_push rfl (.tmp 30) (.tmp 32) 29 rfl Tryd.underlying29 hi hz0 hz1 hz2 rfl (wr.drewN _) w.heap.size _ zs lo (Hown.out.drewN _) rfl rfl Hl.out (by decide) Hsz.out ?_); intro v' w' ho hg; have fin2 := fin _ _ v' w' (Hown.out.drewN _) ho hg.1; clear fin ho hg)
        go_roundw
        case rel => exact fin2
        case measure => simp [intOf]; omega
    · obtain rfl : k = n := by omega
      have e := rsub_end hx.1 Dx.out hz dz Hle.out hv.out
      obtain ⟨A1, c1, rfl, _, _, r1, _⟩ := hown.form
      have ht := rtrim_any A1 zs.length c1 zs wr r1 (by omega)
      have etz : tz zs = cn 10000 (vl 10000 xs - vl 10000 ys) := by rw [← e, cn_vl (by omega) dz]
      rw [etz] at ht
      obtain ⟨S, hS⟩ : ∃ S, Hid (cn 10000 (vl 10000 xs - vl 10000 ys) = S) := ⟨_, hide rfl⟩
      rw [hS.out] at ht
      obtain ⟨L, hL⟩ : ∃ L, zs.length = L := ⟨_, rfl⟩
      rw [hL] at ht ⊢
      have Hb := hide hbel
      clear hL hz e etz dz hv hown hbel r1 hx hy Dx Dy Hle hlt
      go_wp2_with (go_at_call 61; refine ht.mono ?_; rintro e w' ⟨v, rfl, ho, hb⟩)
      go_ret
      have fo := ho.mono Hb.out.size
      have fb := Hb.out.trans (hb.mono Hb.out.size)
      rw [← hS.out] at fo
      exact ⟨_, rfl, fo, fb⟩
end Go.Proofs.YtkonakjchimniaaDoor
