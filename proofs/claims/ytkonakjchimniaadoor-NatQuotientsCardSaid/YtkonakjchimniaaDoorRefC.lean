/-
  The document's own answer: which number is the greater; the sum.
-/
import Derived.Test.YtkonakjchimniaaDoorRefB
namespace Go.Proofs.YtkonakjchimniaaDoor
open Go.RowKit Go.Proofs.YtkonakjchimniaaDoor.Num
set_option linter.unusedVariables false
set_option maxRecDepth 100000

set_option maxHeartbeats 1000000 in
theorem rcmp_any (B : Nat) (A D : Option Addr) (n c m d : Nat) (xs ys : List Nat) (w : World) (hx : Rd .i64 w B A n xs) (hy : Rd .i64 w B D m ys)
    (dx : Dg 10000 xs) (dy : Dg 10000 ys) (hn : n ≤ maxLen) (hm : m ≤ maxLen) :
    Calls Tryd.prog 63 #[.slice A n c, .slice D m d] w fun e w' => e = .returned (.int .i64 (cmpN (vl 10000 xs) (vl 10000 ys))) ∧ w = w' := by
  have hnl := hn
  have hml := hm
  unfold maxLen at hn hm
  have lx := hx.1
  have ly := hy.1
  obtain ⟨M, hM⟩ : ∃ M, M = max n m := ⟨_, rfl⟩
  have hxM : xs.length ≤ M := by omega
  have hyM : ys.length ≤ M := by omega
  clear lx ly
  rcases Nat.lt_or_ge n m with hnm | hnm
  case' inl =>
    obtain rfl : M = m := by omega
    have hd : decide (n < M) = true := decide_eq_true hnm
  case' inr =>
    obtain rfl : M = n := by omega
    have hd : decide (M < m) = false := decide_eq_false (by omega)
  all_goals
    clear hM
    have e0 : Hid (vl 10000 (xs.drop M) = vl 10000 (ys.drop M)) := hide (by rw [List.drop_eq_nil_of_le hxM, List.drop_eq_nil_of_le hyM])
    go_enter Tryd.func63, Tryd.ntmps63
    go_wp2_with fail
    go_loop [6] (fun iv => ∃ k : Nat, k ≤ M ∧ iv = .int .i64 ((k : Int) - 1) ∧ Hid (vl 10000 (xs.drop k) = vl 10000 (ys.drop k))) (fun iv => (intOf iv + 1).toNat)
    case atStart => exact ⟨M, Nat.le_refl _, rfl, e0⟩
    case round =>
      obtain ⟨k, hk, rfl, hv⟩ := hrel
      rcases Nat.eq_zero_or_pos k with h0 | h0
      · subst h0
        have e := hv.out
        rw [List.drop_zero, List.drop_zero] at e
        have e2 := hide (cmpN_eq (vl 10000 ys))
        rw [← e] at e2
        go_wp2_with fail
        go_ret
        exact ⟨by rw [← e, e2.out]; rfl, rfl⟩
      · obtain ⟨j, rfl⟩ : ∃ j, k = j + 1 := ⟨k - 1, by omega⟩
        have ej : ((j + 1 : Nat) : Int) - 1 = (j : Int) := by omega
        rw [ej]
        obtain ⟨x, ex⟩ : ∃ x, Hid (xs.getD j 0 = x) := ⟨_, hide rfl⟩
        obtain ⟨y, ey⟩ : ∃ y, Hid (ys.getD j 0 = y) := ⟨_, hide rfl⟩
        rcases Nat.lt_trichotomy x y with h | h | h
        · have e2 := hide (cmpN_lt (vl_less (by omega) dx ex.out ey.out hv.out h))
          clear ej e0
          go_wp2_with (first
            | (go_at_call 93; (with_reducible refine (place_any B A _ c j x xs _ hx hnl ex).mono ?_); rintro e w' ⟨rfl, rfl⟩)
            | (go_at_call 93; (with_reducible refine (place_any B D _ d j y ys _ hy hml ey).mono ?_); rintro e w' ⟨rfl, rfl⟩))
          go_ret
          exact ⟨by rw [e2.out]; rfl, rfl⟩
        · subst h
          have e2 : Hid (vl 10000 (xs.drop j) = vl 10000 (ys.drop j)) := hide (by rw [vl_drop 10000 xs j, vl_drop 10000 ys j, ex.out, ey.out, hv.out])
          clear ej e0
          go_wp2_with (first
            | (go_at_call 93; (with_reducible refine (place_any B A _ c j x xs _ hx hnl ex).mono ?_); rintro e w' ⟨rfl, rfl⟩)
            | (go_at_call 93; (with_reducible refine (place_any B D _ d j x ys _ hy hml ey).mono ?_); rintro e w' ⟨rfl, rfl⟩))
          go_round
          case rel => first | exact ⟨j, by omega, rfl, e2⟩ | exact ⟨trivial, _, _, _, _, _, _, _, _, _, _, _, _, _, _, _, _, _, _, _, _, ⟨j, by omega, rfl, e2⟩, rfl⟩
          case measure => simp [intOf]
        · have e2 := hide (cmpN_gt (vl_less (by omega) dy ey.out ex.out hv.out.symm h))
          clear ej e0
          go_wp2_with (first
            | (go_at_call 93; (with_reducible refine (place_any B A _ c j x xs _ hx hnl ex).mono ?_); rintro e w' ⟨rfl, rfl⟩)
            | (go_at_call 93; (with_reducible refine (place_any B D _ d j y ys _ hy hml ey).mono ?_); rintro e w' ⟨rfl, rfl⟩))
          go_ret
          exact ⟨by rw [e2.out]; rfl, rfl⟩

/-! ### The sum -/
theorem radd_step {k x y c lo cy : Nat} {zs xs ys : List Nat} (hz : zs.length = k) (hx : xs.getD k 0 = x) (hy : ys.getD k 0 = y) (hlo : (x + y + c) % 10000 = lo) (hcy : (x + y + c) / 10000 = cy)
    (h : vl 10000 zs + 10000 ^ k * c = vl 10000 (xs.take k) + vl 10000 (ys.take k)) :
    vl 10000 (zs ++ [lo]) + 10000 ^ (k + 1) * cy = vl 10000 (xs.take (k + 1)) + vl 10000 (ys.take (k + 1)) := by
  rw [vl_snoc, hz, vl_take_succ, vl_take_succ, hx, hy, Nat.pow_succ]
  have e : lo + 10000 * cy = x + y + c := by omega
  have e2 : 10000 ^ k * lo + 10000 ^ k * 10000 * cy = 10000 ^ k * x + 10000 ^ k * y + 10000 ^ k * c := by
    rw [Nat.mul_assoc, ← Nat.mul_add, e, Nat.mul_add, Nat.mul_add]
  omega
theorem radd_top {M cc : Nat} {xs ys zs : List Nat} (hn : xs.length ≤ M) (hm : ys.length ≤ M) (dx : Dg 10000 xs) (dy : Dg 10000 ys)
    (e : vl 10000 zs + 10000 ^ (M + 1) * cc = vl 10000 (xs.take (M + 1)) + vl 10000 (ys.take (M + 1))) : cc = 0 := by
  rw [List.take_of_length_le (by omega), List.take_of_length_le (by omega)] at e
  rcases Nat.eq_zero_or_pos cc with h | h
  · exact h
  · have h1 := vl_lt dx
    have h2 := vl_lt dy
    have h3 : 10000 ^ xs.length ≤ 10000 ^ M := Nat.pow_le_pow_right (by omega) hn
    have h4 : 10000 ^ ys.length ≤ 10000 ^ M := Nat.pow_le_pow_right (by omega) hm
    have h5 : 10000 ^ (M + 1) * 1 ≤ 10000 ^ (M + 1) * cc := Nat.mul_le_mul_left _ h
    have h6 : 10000 ^ (M + 1) = 10000 ^ M * 10000 := Nat.pow_succ ..
    omega

def RaRel (t : TypeId) (w : World) (M : Nat) (xs ys : List Nat) (v cv iv : Value) (wr : World) : Prop :=
  ∃ (k cc : Nat) (zs : List Nat), k ≤ M + 1 ∧ (k = M + 1 → cc = 0) ∧ cc ≤ 1 ∧ iv = .int .i64 (k : Int) ∧ cv = .int .i64 (cc : Int) ∧ zs.length = k ∧ Dg 10000 zs ∧
    Hid (vl 10000 zs + 10000 ^ k * cc = vl 10000 (xs.take k) + vl 10000 (ys.take k)) ∧ Own .i64 t wr w.heap.size v zs ∧ Below w.heap.size w wr

set_option maxHeartbeats 2000000 in
theorem radd_any (A D : Option Addr) (n c m d : Nat) (xs ys : List Nat) (w : World) (hx : Rd .i64 w w.heap.size A n xs) (hy : Rd .i64 w w.heap.size D m ys)
    (dx : Dg 10000 xs) (dy : Dg 10000 ys) (hn : n ≤ 800000000000) (hm : m ≤ 800000000000) :
    Calls Tryd.prog 59 #[.slice A n c, .slice D m d] w (OwnRet .i64 3 w (cn 10000 (vl 10000 xs + vl 10000 ys))) := by
  obtain ⟨i0, hi, hz0, hz1, hz2⟩ := info_parts info_int
  have hnl : n ≤ maxLen := by unfold maxLen; omega
  have hml : m ≤ maxLen := by unfold maxLen; omega
  obtain ⟨M, hM⟩ : ∃ M, M = max n m := ⟨_, rfl⟩
  have hxM : Hid (xs.length ≤ M) := hide (by have := hx.1; omega)
  have hyM : Hid (ys.length ≤ M) := hide (by have := hy.1; omega)
  have hMb : M ≤ 800000000000 := by omega
  have hnM : n ≤ M := by omega
  have hmM : m ≤ M := by omega
  have hMnm : ∀ k, n ≤ k → m ≤ k → M ≤ k := by intro k h1 h2; omega
  have Dx := hide dx
  have Dy := hide dy
  have HM := hide hMnm
  clear hM dx dy hMnm
  have e0 : Hid (vl 10000 ([] : List Nat) + 10000 ^ 0 * 0 = vl 10000 (xs.take 0) + vl 10000 (ys.take 0)) := hide (by simp [vl])
  go_enter Tryd.func59, Tryd.ntmps59
  go_wp2_with fail
  go_loopw [5, 6, 7] (fun v cv iv wr => RaRel 3 w M xs ys v cv iv wr) (fun _ _ iv _ => M + 1 - (intOf iv).toNat)
  case atStart => exact ⟨0, 0, [], by omega, fun _ => rfl, by omega, rfl, rfl, rfl, Dg.nil, e0, own_empty .i64 3 w w.heap.size (Nat.le_refl _), (Below.refl _ _).alloc (Nat.le_refl _) _⟩
  case round =>
    obtain ⟨k, cc, zs, hk, htop, hcc, rfl, rfl, hz, dz, hv, hown, hbel⟩ := hrel
    clear e0
    by_cases hgo : k < n ∨ k < m ∨ 0 < cc
    · have hkM : k ≤ M := by
        rcases Nat.lt_or_ge M k with h | h
        · have := htop (by omega)
          omega
        · exact h
      obtain ⟨x, ex⟩ : ∃ x, Hid (xs.getD k 0 = x) := ⟨_, hide rfl⟩
      obtain ⟨y, ey⟩ : ∃ y, Hid (ys.getD k 0 = y) := ⟨_, hide rfl⟩
      have bx : x < 10000 := by rw [← ex.out]; exact Dx.out.getD (by omega) k
      have bY : y < 10000 := by rw [← ey.out]; exact Dy.out.getD (by omega) k
      obtain ⟨lo, hlo⟩ : ∃ lo, (x + y + cc) % 10000 = lo := ⟨_, rfl⟩
      obtain ⟨cy, hcy⟩ : ∃ cy, (x + y + cc) / 10000 = cy := ⟨_, rfl⟩
      have hv2 := radd_step hz ex.out ey.out hlo hcy hv.out
      have htop2 : k + 1 = M + 1 → cy = 0 := fun h => by
        rw [h] at hv2
        exact radd_top hxM.out hyM.out Dx.out Dy.out hv2
      have er : Int.tmod ((x : Int) + (y : Int) + (cc : Int)) 10000 = (lo : Int) := by rw [← hlo]; exact (Int.ofNat_tmod (x + y + cc) 10000).symm
      have eq : Int.tdiv ((x : Int) + (y : Int) + (cc : Int)) 10000 = (cy : Int) := by rw [← hcy]; exact (Int.ofNat_tdiv (x + y + cc) 10000).symm
      have hcy1 : cy ≤ 1 := by omega
      have dz2 : Dg 10000 (zs ++ [lo]) := dz.append (Dg.cons (by omega) Dg.nil)
      have hz2 : (zs ++ [lo]).length = k + 1 := by simp [hz]
      have hx2 := hx.below hbel (Nat.le_refl _)
      have hy2 := hy.below hbel (Nat.le_refl _)
      have hsz := hbel.size
      have hl : zs.length + 1 ≤ 17592186044416 := by omega
      have fin : ∀ u v' w', Own .i64 3 wr w.heap.size u zs → Own .i64 3 w' w.heap.size v' (zs ++ [lo]) → wr.grownBy w' u.ownBlock → RaRel 3 w M xs ys v' (.int .i64 (cy : Int)) (.int .i64 ((k + 1 : Nat) : Int)) w' := by
        intro u v' w' hu ho hg
        exact ⟨k + 1, cy, _, by omega, htop2, hcy1, rfl, rfl, hz2, dz2, hide hv2, ho, push_below hbel hu hg hsz⟩
      have Hown := hide hown
      have Hsz := hide hsz
      have Hl := hide hl
      have hkb : k ≤ 800000000000 := by omega
      clear hv hv2 htop htop2 hlo hcy dz dz2 hz hz2 hx hy hown hbel hl hsz
      have hsplit : k < n ∨ (n ≤ k ∧ k < m) ∨ (n ≤ k ∧ m ≤ k ∧ 0 < cc) := by omega
      clear hgo HM hxM hyM Dx Dy
      rcases hsplit with h1 | ⟨h1, h2⟩ | ⟨h1, h2, h3⟩
      all_goals
        go_wp2_with (first
          | (go_at_call 93; (with_reducible refine (place_any w.heap.size A _ c k x xs _ hx2 hnl ex).mono ?_); rintro e w' ⟨rfl, rfl⟩)
          | (go_at_call 93; (with_reducible refine (place_any w.heap.size D _ d k y ys _ hy2 hml ey).mono ?_); rintro e w' ⟨rfl, rfl⟩)
          | (at_builtin; go_must (refine wpList_push rfl (.tmp 35) (.tmp 38) 29 rfl Tryd.underlying29 hi hz0 hz1 hz2 rfl wr w.heap.size _ zs lo Hown.out rfl rfl Hl.out (by decide) Hsz.out ?_); intro v' w' ho hg; have fin2 := fin _ v' w' Hown.out ho hg.1; clear fin ho hg))
        go_roundw
        case rel => exact fin2
        case measure => simp [intOf]; omega
    · obtain rfl : cc = 0 := by omega
      have hkn : n ≤ k := by omega
      have hkm : m ≤ k := by omega
      have e := hv.out
      rw [Nat.mul_zero, Nat.add_zero, List.take_of_length_le (by have := hx.1; omega), List.take_of_length_le (by have := hy.1; omega)] at e
      obtain ⟨A1, c1, rfl, _, _, r1, _⟩ := hown.form
      have ht := rtrim_any A1 zs.length c1 zs wr r1 (by omega)
      have etz : tz zs = cn 10000 (vl 10000 xs + vl 10000 ys) := by rw [← e, cn_vl (by omega) dz]
      rw [etz] at ht
      obtain ⟨S, hS⟩ : ∃ S, Hid (cn 10000 (vl 10000 xs + vl 10000 ys) = S) := ⟨_, hide rfl⟩
      rw [hS.out] at ht
      obtain ⟨L, hL⟩ : ∃ L, zs.length = L := ⟨_, rfl⟩
      rw [hL] at ht ⊢
      have Hb := hide hbel
      clear hL hz e etz dz hv hown hbel r1 hx hy hxM hyM Dx Dy HM htop hgo
      go_wp2_with (go_at_call 61; refine ht.mono ?_; rintro e w' ⟨v, rfl, ho, hb⟩)
      go_ret
      have fo := ho.mono Hb.out.size
      have fb := Hb.out.trans (hb.mono Hb.out.size)
      rw [← hS.out] at fo
      exact ⟨_, rfl, fo, fb⟩
end Go.Proofs.YtkonakjchimniaaDoor
