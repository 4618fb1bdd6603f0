/-
  Shared texts, one behind the other: Gcd1, RefA, RefB, RefC, RefD, RefE, RefF, RefG, RefH, RefI, RefM, Law, BackW, Gcd.
-/
import Derived.Test.YtpfeacdhplbblaaGreatBundleB
import Derived.Deep.RegionHeld3
import Derived.Test.YtpfeacdhplbblaaGreatBundleA
import Derived.Deep.DeepCutAuto
import Derived.Deep.CutBlock
import Derived.BigGuardPart
import Derived.Deep.QuietTactic
import Derived.BigQuiet
import Derived.IntWalk
import Derived.Deep.LoopGhost

namespace Go.Proofs.YtpfeacdhplbblaaGreat
open Go.RowKit Go.Proofs.YtpfeacdhplbblaaGreat.Num
set_option linter.unusedVariables false
set_option maxRecDepth 100000
theorem gcdWord_any (a b : Nat) (w : World) (ha : a < Q) (hb : b < Q) :
    Calls Tryz.prog 109 #[.int .u64 (a : Int), .int .u64 (b : Int)] w (QuietRet w (.int .u64 ((Nat.gcd a b : Nat) : Int))) := by
  obtain ⟨G, hG⟩ : ∃ G, Hid (Nat.gcd a b = G) := ⟨_, hide rfl⟩
  rw [hG.out]
  go_enter Tryz.func109, Tryz.ntmps109
  go_wp2_with fail
  go_loopw [0, 1] (fun av bv wr => ∃ x y q : Nat, av = .int .u64 (x : Int) ∧ bv = .int .u64 (y : Int) ∧ x < Q ∧ y < Q ∧ Hid (Nat.gcd x y = G) ∧ wr = w.drewN q) (fun _ bv _ => (intOf bv).toNat)
  case atStart => exact ⟨a, b, 0, rfl, rfl, ha, hb, hG, rfl⟩
  case round =>
    obtain ⟨x, y, q, rfl, rfl, hx, hy, hg, rfl⟩ := hrel
    clear hG ha hb
    by_cases h0 : y = 0
    · subst h0
      have e := hg.out
      rw [Nat.gcd_zero_right] at e
      have b0 : (((0 : Int) != 0)) = false := rfl
      clear hg hx hy
      go_wp2_with fail
      go_ret
      exact ⟨by rw [← e]; rfl, q, rfl⟩
    · have b0 : ((y : Int) != 0) = true := by rw [bne_iff_ne]; omega
      have b1 : ((y : Int) == 0) = false := beq_eq_false_iff_ne.2 (by omega)
      have c1 : (1 : Int) ≤ (y : Int) := by omega
      have e2 : (x : Int) % (y : Int) = ((x % y : Nat) : Int) := (Int.natCast_emod x y).symm
      have hlt : x % y < y := Nat.mod_lt _ (by omega)
      have hg2 : Hid (Nat.gcd y (x % y) = G) := hide (by rw [← hg.out, Nat.gcd_comm x y, Nat.gcd_comm y (x % y), ← Nat.gcd_rec y x])
      have hr : ∃ r, Hid (x % y = r) := ⟨_, hide rfl⟩
      obtain ⟨r, hr⟩ := hr
      rw [hr.out] at e2 hlt hg2
      have hrQ : r < Q := by omega
      have b3 : (r : Int) ≤ 18446744073709551615 := by unfold Q at hrQ; omega
      have hxI : (x : Int) ≤ 18446744073709551615 := by unfold Q at hx; omega
      have fin : ∀ nq : Nat, ∃ x' y' q' : Nat, Value.int .u64 (y : Int) = .int .u64 (x' : Int) ∧ Value.int .u64 (r : Int) = .int .u64 (y' : Int) ∧ x' < Q ∧ y' < Q ∧ Hid (Nat.gcd x' y' = G) ∧ (w.drewN q).drewN nq = w.drewN q' :=
        fun nq => ⟨y, r, q + nq, rfl, rfl, hy, hrQ, hg2, World.drewN_drewN _ _ _⟩
      have Fin := hide fin
      have E2 := hide e2
      have Hlt := hide hlt
      clear hg hg2 hr hrQ fin hx hy
      go_wp2_with fail
      go_quiet (fail)
      go_wp2_with fail
      go_roundw
      case rel => first | exact Fin.out nq | (rw [E2.out]; exact Fin.out nq)
      case measure =>
        have h := Hlt.out
        have h2 := E2.out
        simp [intOf]
        omega
theorem place_any (B : Nat) (A : Option Addr) (n c i x : Nat) (xs : List Nat) (w : World) (h : Rd .i64 w B A n xs) (hn : n ≤ maxLen) (hx : Hid (xs.getD i 0 = x)) :
    Calls Tryz.prog 94 #[.slice A n c, .int .i64 (i : Int)] w fun e w' => e = .returned (.int .i64 (x : Int)) ∧ w = w' := by
  unfold maxLen at hn
  have hl := h.1
  by_cases h1 : i < n
  · obtain ⟨b, off, rfl, _, hc⟩ := h.at_ h1
    rw [hx.out] at hc
    clear h hx hl
    go_enter Tryz.func94, Tryz.ntmps94
    go_wp2
    go_ret
    exact ⟨rfl, rfl⟩
  · have e : x = 0 := by
      rw [← hx.out]; simp [List.getD_eq_getElem?_getD, List.getElem?_eq_none (show xs.length ≤ i by omega)]
    subst e
    clear h hl hx
    go_enter Tryz.func94, Tryz.ntmps94
    go_wp2
    go_ret
    exact ⟨rfl, rfl⟩
theorem info_int : (Tryz.prog.info? 3).map (fun i => (i.zero, i.size, i.bytes)) = some (some (.int .i64 0), 1, 8) := by kernel_rfl
set_option maxHeartbeats 1000000 in
theorem rtrim_any (A : Option Addr) (n c : Nat) (xs : List Nat) (w : World) (hx : Rd .i64 w w.heap.size A n xs) (hn : n ≤ 17592186044000) :
    Calls Tryz.prog 62 #[.slice A n c] w (OwnRet .i64 3 w (tz xs)) := by
  obtain ⟨i0, hi, hz0, hz1, hz2⟩ := info_parts info_int
  have hl := hx.1
  have h00 : Hid (tz (xs.take n) = tz xs) := hide (by rw [List.take_of_length_le (by omega)])
  have Hx := hide hx
  clear hl hx
  have hz : Hid (Rd .i64 w w.heap.size A (tz xs).length (tz xs)) := hide (by
    have h1 := Hx.out.first (m := (tz xs).length) (by have h2 := tz_length_le xs; have h3 := Hx.out.1; omega)
    rw [← tz_take] at h1
    exact h1)
  have hzn : Hid ((tz xs).length ≤ 17592186044000) := hide (by have h2 := tz_length_le xs; have h3 := Hx.out.1; omega)
  have hzn2 : Hid ((tz xs).length ≤ n) := hide (by have h2 := tz_length_le xs; have h3 := Hx.out.1; omega)
  go_enter Tryz.func62, Tryz.ntmps62
  go_upto_block 0 with fail
  go_cut [3] (fun v wx => v = .int .i64 (((tz xs).length : Nat) : Int) ∧ w = wx)
  case first =>
    clear hz hzn hzn2
    go_wp2_with fail
    go_loop [3] (fun v => ∃ k : Nat, k ≤ n ∧ v = .int .i64 k ∧ Hid (tz (xs.take k) = tz xs)) (fun v => (intOf v).toNat)
    case atStart => exact ⟨n, Nat.le_refl _, rfl, h00⟩
    case round =>
      obtain ⟨k, hk, rfl, ht⟩ := hrel
      by_cases h0 : k = 0
      · subst h0
        go_wp2_with fail
        go_meet
        have e := ht.out
        rw [List.take_zero] at e
        exact ⟨by rw [← e]; rfl, rfl⟩
      · obtain ⟨m, rfl⟩ : ∃ m, k = m + 1 := ⟨k - 1, by omega⟩
        have h := Hx.out
        obtain ⟨b, off, rfl, _, hcell⟩ := h.at_ (show m < n by omega)
        have hm : m < xs.length := by have := h.1; omega
        by_cases hx : xs.getD m 0 = 0
        · have e2 : Hid (tz (xs.take m) = tz xs) := hide (by rw [← tz_step_zero xs m hm hx]; exact ht.out)
          rw [hx] at hcell
          clear h hm hx h0
          go_wp2_with fail
          go_round
          case rel => exact ⟨m, by omega, rfl, e2⟩
          case measure => simp [intOf]
        · have e2 : Hid ((tz xs).length = m + 1) := hide (by rw [← ht.out]; exact tz_step_pos xs m hm hx)
          obtain ⟨x, hxx⟩ : ∃ x, xs.getD m 0 = x := ⟨_, rfl⟩
          rw [hxx] at hcell hx
          have hb : (((x : Int) == 0)) = false := beq_eq_false_iff_ne.2 (by omega)
          clear h hm hxx h0
          go_wp2_with fail
          go_meet
          exact ⟨by rw [e2.out]; rfl, rfl⟩
  case rest =>
    obtain ⟨rfl, rfl⟩ := hcut
    clear h00 Hx
    generalize tz xs = zs at *
    clear xs
    obtain ⟨m, hm⟩ : ∃ m, zs.length = m := ⟨_, rfl⟩
    rw [hm] at hz hzn hzn2 ⊢
    have hmn := hzn.out
    have hmle := hzn2.out
    clear hzn hzn2
    go_wp2_with fail
    go_loopw [4, 5] (fun v iv wr => CopyRel .i64 3 w m zs v iv wr) (fun _ iv _ => m - (intOf iv).toNat)
    case atStart => exact ⟨0, Nat.zero_le _, rfl, by simpa using own_empty .i64 3 w w.heap.size (Nat.le_refl _), (Below.refl _ _).alloc (Nat.le_refl _) _⟩
    case round =>
      obtain ⟨k, hk, rfl, hown, hbel⟩ := hrel
      by_cases hlt : k < m
      · have hkn : k < n := by omega
        obtain ⟨x, ex⟩ : ∃ x, Hid (zs.getD k 0 = x) := ⟨_, hide rfl⟩
        have hx2 := hz.out.below hbel (Nat.le_refl _)
        obtain ⟨b, o, rfl, hbb, hc⟩ := hx2.at_ hlt
        rw [ex.out] at hc
        have ht := hide (take_push zs (by rw [hm]; exact hlt) ex.out)
        have hsz := hbel.size
        have hlen : (zs.take k).length + 1 ≤ 17592186044416 := by rw [List.length_take]; omega
        have fin : ∀ u v' w', Own .i64 3 wr w.heap.size u (zs.take k) → Own .i64 3 w' w.heap.size v' (zs.take k ++ [x]) → wr.grownBy w' u.ownBlock → CopyRel .i64 3 w m zs v' (.int .i64 ((k + 1 : Nat) : Int)) w' := by
          intro u v' w' hu ho hg
          rw [ht.out] at ho
          exact ⟨k + 1, by omega, rfl, ho, push_below hbel hu hg hsz⟩
        have Hown := hide hown
        have Hsz := hide hsz
        have Hlen := hide hlen
        clear hz hx2 hown hbel ht ex hsz hlen hbb
        go_wp2_with (at_builtin; go_must (refine wpList_push rfl (.tmp 26) (.tmp 31) 49 rfl Tryz.underlying49 hi hz0 hz1 hz2 rfl wr w.heap.size _ (zs.take k) x Hown.out rfl rfl Hlen.out (by decide) Hsz.out ?_); intro v' w' ho hg; have fin2 := fin _ v' w' Hown.out ho hg.1; clear fin ho hg)
        go_roundw
        case rel => exact fin2
        case measure => simp [intOf]; omega
      · obtain rfl : k = m := by omega
        rw [List.take_of_length_le (by omega)] at hown
        clear hz
        go_wp2_with fail
        go_ret
        exact ⟨_, rfl, hown, hbel⟩
def SmRel (t : TypeId) (w : World) (n : Nat) (iv v : Value) (wr : World) : Prop :=
  ∃ (m : Nat) (ds : List Nat), iv = .int .i64 (m : Int) ∧ m ≤ n ∧ Hid (cn 10000 n = ds ++ cn 10000 m) ∧ Own .i64 t wr w.heap.size v ds ∧ Below w.heap.size w wr
set_option maxHeartbeats 1000000 in
theorem small_any (n : Nat) (w : World) (hn : n ≤ 9223372036854775807) :
    Calls Tryz.prog 61 #[.int .i64 (n : Int)] w (OwnRet .i64 3 w (cn 10000 n)) := by
  obtain ⟨i0, hi, hz0, hz1, hz2⟩ := info_parts info_int
  have hlen : Hid ((cn 10000 n).length ≤ 20) := hide (cn_length_le (by omega) (Nat.lt_of_le_of_lt hn (by decide +kernel)))
  go_enter Tryz.func61, Tryz.ntmps61
  go_wp2_with fail
  go_loopw [0, 3] (fun iv v wr => SmRel 3 w n iv v wr) (fun iv _ _ => (intOf iv).toNat)
  case atStart => exact ⟨n, [], rfl, Nat.le_refl _, hide rfl, own_empty .i64 3 w w.heap.size (Nat.le_refl _), (Below.refl _ _).alloc (Nat.le_refl _) _⟩
  case round =>
    obtain ⟨m, ds, rfl, hm, hcn, hown, hbel⟩ := hrel
    by_cases h0 : 0 < m
    · have e1 := cn_pos (B := 10000) (n := m) (by omega) (by omega)
      obtain ⟨q, hq⟩ : ∃ q, m / 10000 = q := ⟨_, rfl⟩
      obtain ⟨r, hr⟩ : ∃ r, m % 10000 = r := ⟨_, rfl⟩
      rw [hq, hr] at e1
      have hqm : q < m := by omega
      have hrb : r < 10000 := by omega
      have eq : Int.tdiv (m : Int) 10000 = (q : Int) := by rw [← hq]; exact (Int.ofNat_tdiv m 10000).symm
      have er : Int.tmod (m : Int) 10000 = (r : Int) := by rw [← hr]; exact (Int.ofNat_tmod m 10000).symm
      have e2 : Hid (cn 10000 n = (ds ++ [r]) ++ cn 10000 q) := hide (by rw [hcn.out, e1, List.append_assoc]; rfl)
      have hsz := hbel.size
      have hl : ds.length + 1 ≤ 17592186044416 := by
        have h1 := congrArg List.length e2.out
        simp only [List.length_append, List.length_cons, List.length_nil] at h1
        have h2 := hlen.out
        omega
      have fin : ∀ u v' w', Own .i64 3 wr w.heap.size u ds → Own .i64 3 w' w.heap.size v' (ds ++ [r]) → wr.grownBy w' u.ownBlock → SmRel 3 w n (.int .i64 (q : Int)) v' w' := by
        intro u v' w' hu ho hg
        exact ⟨q, ds ++ [r], rfl, by omega, e2, ho, push_below hbel hu hg hsz⟩
      have Hown := hide hown
      have Hsz := hide hsz
      have Hl := hide hl
      clear hown hbel hcn e1 e2 hq hr hl hsz hlen
      go_wp2_with (at_builtin; go_must (refine wpList_push rfl (.tmp 7) (.tmp 10) 49 rfl Tryz.underlying49 hi hz0 hz1 hz2 rfl wr w.heap.size _ ds r Hown.out rfl rfl Hl.out (by decide) Hsz.out ?_); intro v' w' ho hg; have fin2 := fin _ v' w' Hown.out ho hg.1; clear fin ho hg)
      go_roundw
      case rel => exact fin2
      case measure => simp [intOf]; omega
    · obtain rfl : m = 0 := by omega
      have e1 : cn 10000 n = ds := by rw [hcn.out, cn_zero, List.append_nil]
      clear hcn hlen
      go_wp2_with fail
      go_ret
      exact ⟨_, rfl, by rw [e1]; exact hown, hbel⟩
set_option maxHeartbeats 1000000 in
theorem rcmp_any (B : Nat) (A D : Option Addr) (n c m d : Nat) (xs ys : List Nat) (w : World) (hx : Rd .i64 w B A n xs) (hy : Rd .i64 w B D m ys)
    (dx : Dg 10000 xs) (dy : Dg 10000 ys) (hn : n ≤ maxLen) (hm : m ≤ maxLen) :
    Calls Tryz.prog 92 #[.slice A n c, .slice D m d] w fun e w' => e = .returned (.int .i64 (cmpN (vl 10000 xs) (vl 10000 ys))) ∧ w = w' := by
  have hnl := hn
  have hml := hm
  unfold maxLen at hn hm
  have lx := hx.1
  have ly := hy.1
  obtain ⟨M, hM⟩ : ∃ M, M = max n m := ⟨_, rfl⟩
  have hxM : xs.length ≤ M := by omega
  have hyM : ys.length ≤ M := by omega
  clear lx ly
  rcases Nat.lt_or_ge n m with hnm | hnm
  case' inl =>
    obtain rfl : M = m := by omega
    have hd : decide (n < M) = true := decide_eq_true hnm
  case' inr =>
    obtain rfl : M = n := by omega
    have hd : decide (M < m) = false := decide_eq_false (by omega)
  all_goals
    clear hM
    have e0 : Hid (vl 10000 (xs.drop M) = vl 10000 (ys.drop M)) := hide (by rw [List.drop_eq_nil_of_le hxM, List.drop_eq_nil_of_le hyM])
    go_enter Tryz.func92, Tryz.ntmps92
    go_wp2_with fail
    go_loop [6] (fun iv => ∃ k : Nat, k ≤ M ∧ iv = .int .i64 ((k : Int) - 1) ∧ Hid (vl 10000 (xs.drop k) = vl 10000 (ys.drop k))) (fun iv => (intOf iv + 1).toNat)
    case atStart => exact ⟨M, Nat.le_refl _, rfl, e0⟩
    case round =>
      obtain ⟨k, hk, rfl, hv⟩ := hrel
      rcases Nat.eq_zero_or_pos k with h0 | h0
      · subst h0
        have e := hv.out
        rw [List.drop_zero, List.drop_zero] at e
        have e2 := hide (cmpN_eq (vl 10000 ys))
        rw [← e] at e2
        go_wp2_with fail
        go_ret
        exact ⟨by rw [← e, e2.out]; rfl, rfl⟩
      · obtain ⟨j, rfl⟩ : ∃ j, k = j + 1 := ⟨k - 1, by omega⟩
        have ej : ((j + 1 : Nat) : Int) - 1 = (j : Int) := by omega
        rw [ej]
        obtain ⟨x, ex⟩ : ∃ x, Hid (xs.getD j 0 = x) := ⟨_, hide rfl⟩
        obtain ⟨y, ey⟩ : ∃ y, Hid (ys.getD j 0 = y) := ⟨_, hide rfl⟩
        rcases Nat.lt_trichotomy x y with h | h | h
        · have e2 := hide (cmpN_lt (vl_less (by omega) dx ex.out ey.out hv.out h))
          clear ej e0
          go_wp2_with (first
            | (go_at_call 94; (with_reducible refine (place_any B A _ c j x xs _ hx hnl ex).mono ?_); rintro e w' ⟨rfl, rfl⟩)
            | (go_at_call 94; (with_reducible refine (place_any B D _ d j y ys _ hy hml ey).mono ?_); rintro e w' ⟨rfl, rfl⟩))
          go_ret
          exact ⟨by rw [e2.out]; rfl, rfl⟩
        · subst h
          have e2 : Hid (vl 10000 (xs.drop j) = vl 10000 (ys.drop j)) := hide (by rw [vl_drop 10000 xs j, vl_drop 10000 ys j, ex.out, ey.out, hv.out])
          clear ej e0
          go_wp2_with (first
            | (go_at_call 94; (with_reducible refine (place_any B A _ c j x xs _ hx hnl ex).mono ?_); rintro e w' ⟨rfl, rfl⟩)
            | (go_at_call 94; (with_reducible refine (place_any B D _ d j x ys _ hy hml ey).mono ?_); rintro e w' ⟨rfl, rfl⟩))
          go_round
          case rel => first | exact ⟨j, by omega, rfl, e2⟩ | exact ⟨trivial, _, _, _, _, _, _, _, _, _, _, _, _, _, _, _, _, _, _, _, _, ⟨j, by omega, rfl, e2⟩, rfl⟩
          case measure => simp [intOf]
        · have e2 := hide (cmpN_gt (vl_less (by omega) dy ey.out ex.out hv.out.symm h))
          clear ej e0
          go_wp2_with (first
            | (go_at_call 94; (with_reducible refine (place_any B A _ c j x xs _ hx hnl ex).mono ?_); rintro e w' ⟨rfl, rfl⟩)
            | (go_at_call 94; (with_reducible refine (place_any B D _ d j y ys _ hy hml ey).mono ?_); rintro e w' ⟨rfl, rfl⟩))
          go_ret
          exact ⟨by rw [e2.out]; rfl, rfl⟩
theorem radd_step {k x y c lo cy : Nat} {zs xs ys : List Nat} (hz : zs.length = k) (hx : xs.getD k 0 = x) (hy : ys.getD k 0 = y) (hlo : (x + y + c) % 10000 = lo) (hcy : (x + y + c) / 10000 = cy)
    (h : vl 10000 zs + 10000 ^ k * c = vl 10000 (xs.take k) + vl 10000 (ys.take k)) :
    vl 10000 (zs ++ [lo]) + 10000 ^ (k + 1) * cy = vl 10000 (xs.take (k + 1)) + vl 10000 (ys.take (k + 1)) := by
  rw [vl_snoc, hz, vl_take_succ, vl_take_succ, hx, hy, Nat.pow_succ]
  have e : lo + 10000 * cy = x + y + c := by omega
  have e2 : 10000 ^ k * lo + 10000 ^ k * 10000 * cy = 10000 ^ k * x + 10000 ^ k * y + 10000 ^ k * c := by
    rw [Nat.mul_assoc, ← Nat.mul_add, e, Nat.mul_add, Nat.mul_add]
  omega
theorem radd_top {M cc : Nat} {xs ys zs : List Nat} (hn : xs.length ≤ M) (hm : ys.length ≤ M) (dx : Dg 10000 xs) (dy : Dg 10000 ys)
    (e : vl 10000 zs + 10000 ^ (M + 1) * cc = vl 10000 (xs.take (M + 1)) + vl 10000 (ys.take (M + 1))) : cc = 0 := by
  rw [List.take_of_length_le (by omega), List.take_of_length_le (by omega)] at e
  rcases Nat.eq_zero_or_pos cc with h | h
  · exact h
  · have h1 := vl_lt dx
    have h2 := vl_lt dy
    have h3 : 10000 ^ xs.length ≤ 10000 ^ M := Nat.pow_le_pow_right (by omega) hn
    have h4 : 10000 ^ ys.length ≤ 10000 ^ M := Nat.pow_le_pow_right (by omega) hm
    have h5 : 10000 ^ (M + 1) * 1 ≤ 10000 ^ (M + 1) * cc := Nat.mul_le_mul_left _ h
    have h6 : 10000 ^ (M + 1) = 10000 ^ M * 10000 := Nat.pow_succ ..
    omega
def RaRel (t : TypeId) (w : World) (M : Nat) (xs ys : List Nat) (v cv iv : Value) (wr : World) : Prop :=
  ∃ (k cc : Nat) (zs : List Nat), k ≤ M + 1 ∧ (k = M + 1 → cc = 0) ∧ cc ≤ 1 ∧ iv = .int .i64 (k : Int) ∧ cv = .int .i64 (cc : Int) ∧ zs.length = k ∧ Dg 10000 zs ∧
    Hid (vl 10000 zs + 10000 ^ k * cc = vl 10000 (xs.take k) + vl 10000 (ys.take k)) ∧ Own .i64 t wr w.heap.size v zs ∧ Below w.heap.size w wr
set_option maxHeartbeats 2000000 in
theorem radd_any (A D : Option Addr) (n c m d : Nat) (xs ys : List Nat) (w : World) (hx : Rd .i64 w w.heap.size A n xs) (hy : Rd .i64 w w.heap.size D m ys)
    (dx : Dg 10000 xs) (dy : Dg 10000 ys) (hn : n ≤ 800000000000) (hm : m ≤ 800000000000) :
    Calls Tryz.prog 65 #[.slice A n c, .slice D m d] w (OwnRet .i64 3 w (cn 10000 (vl 10000 xs + vl 10000 ys))) := by
  obtain ⟨i0, hi, hz0, hz1, hz2⟩ := info_parts info_int
  have hnl : n ≤ maxLen := by unfold maxLen; omega
  have hml : m ≤ maxLen := by unfold maxLen; omega
  obtain ⟨M, hM⟩ : ∃ M, M = max n m := ⟨_, rfl⟩
  have hxM : Hid (xs.length ≤ M) := hide (by have := hx.1; omega)
  have hyM : Hid (ys.length ≤ M) := hide (by have := hy.1; omega)
  have hMb : M ≤ 800000000000 := by omega
  have hnM : n ≤ M := by omega
  have hmM : m ≤ M := by omega
  have hMnm : ∀ k, n ≤ k → m ≤ k → M ≤ k := by intro k h1 h2; omega
  have Dx := hide dx
  have Dy := hide dy
  have HM := hide hMnm
  clear hM dx dy hMnm
  have e0 : Hid (vl 10000 ([] : List Nat) + 10000 ^ 0 * 0 = vl 10000 (xs.take 0) + vl 10000 (ys.take 0)) := hide (by simp [vl])
  go_enter Tryz.func65, Tryz.ntmps65
  go_wp2_with fail
  go_loopw [5, 6, 7] (fun v cv iv wr => RaRel 3 w M xs ys v cv iv wr) (fun _ _ iv _ => M + 1 - (intOf iv).toNat)
  case atStart => exact ⟨0, 0, [], by omega, fun _ => rfl, by omega, rfl, rfl, rfl, Dg.nil, e0, own_empty .i64 3 w w.heap.size (Nat.le_refl _), (Below.refl _ _).alloc (Nat.le_refl _) _⟩
  case round =>
    obtain ⟨k, cc, zs, hk, htop, hcc, rfl, rfl, hz, dz, hv, hown, hbel⟩ := hrel
    clear e0
    by_cases hgo : k < n ∨ k < m ∨ 0 < cc
    · have hkM : k ≤ M := by
        rcases Nat.lt_or_ge M k with h | h
        · have := htop (by omega)
          omega
        · exact h
      obtain ⟨x, ex⟩ : ∃ x, Hid (xs.getD k 0 = x) := ⟨_, hide rfl⟩
      obtain ⟨y, ey⟩ : ∃ y, Hid (ys.getD k 0 = y) := ⟨_, hide rfl⟩
      have bx : x < 10000 := by rw [← ex.out]; exact Dx.out.getD (by omega) k
      have bY : y < 10000 := by rw [← ey.out]; exact Dy.out.getD (by omega) k
      obtain ⟨lo, hlo⟩ : ∃ lo, (x + y + cc) % 10000 = lo := ⟨_, rfl⟩
      obtain ⟨cy, hcy⟩ : ∃ cy, (x + y + cc) / 10000 = cy := ⟨_, rfl⟩
      have hv2 := radd_step hz ex.out ey.out hlo hcy hv.out
      have htop2 : k + 1 = M + 1 → cy = 0 := fun h => by
        rw [h] at hv2
        exact radd_top hxM.out hyM.out Dx.out Dy.out hv2
      have er : Int.tmod ((x : Int) + (y : Int) + (cc : Int)) 10000 = (lo : Int) := by rw [← hlo]; exact (Int.ofNat_tmod (x + y + cc) 10000).symm
      have eq : Int.tdiv ((x : Int) + (y : Int) + (cc : Int)) 10000 = (cy : Int) := by rw [← hcy]; exact (Int.ofNat_tdiv (x + y + cc) 10000).symm
      have hcy1 : cy ≤ 1 := by omega
      have dz2 : Dg 10000 (zs ++ [lo]) := dz.append (Dg.cons (by omega) Dg.nil)
      have hz2 : (zs ++ [lo]).length = k + 1 := by simp [hz]
      have hx2 := hx.below hbel (Nat.le_refl _)
      have hy2 := hy.below hbel (Nat.le_refl _)
      have hsz := hbel.size
      have hl : zs.length + 1 ≤ 17592186044416 := by omega
      have fin : ∀ u v' w', Own .i64 3 wr w.heap.size u zs → Own .i64 3 w' w.heap.size v' (zs ++ [lo]) → wr.grownBy w' u.ownBlock → RaRel 3 w M xs ys v' (.int .i64 (cy : Int)) (.int .i64 ((k + 1 : Nat) : Int)) w' := by
        intro u v' w' hu ho hg
        exact ⟨k + 1, cy, _, by omega, htop2, hcy1, rfl, rfl, hz2, dz2, hide hv2, ho, push_below hbel hu hg hsz⟩
      have Hown := hide hown
      have Hsz := hide hsz
      have Hl := hide hl
      have hkb : k ≤ 800000000000 := by omega
      clear hv hv2 htop htop2 hlo hcy dz dz2 hz hz2 hx hy hown hbel hl hsz
      have hsplit : k < n ∨ (n ≤ k ∧ k < m) ∨ (n ≤ k ∧ m ≤ k ∧ 0 < cc) := by omega
      clear hgo HM hxM hyM Dx Dy
      rcases hsplit with h1 | ⟨h1, h2⟩ | ⟨h1, h2, h3⟩
      all_goals
        go_wp2_with (first
          | (go_at_call 94; (with_reducible refine (place_any w.heap.size A _ c k x xs _ hx2 hnl ex).mono ?_); rintro e w' ⟨rfl, rfl⟩)
          | (go_at_call 94; (with_reducible refine (place_any w.heap.size D _ d k y ys _ hy2 hml ey).mono ?_); rintro e w' ⟨rfl, rfl⟩)
          | (at_builtin; go_must (refine wpList_push rfl (.tmp 35) (.tmp 38) 49 rfl Tryz.underlying49 hi hz0 hz1 hz2 rfl wr w.heap.size _ zs lo Hown.out rfl rfl Hl.out (by decide) Hsz.out ?_); intro v' w' ho hg; have fin2 := fin _ v' w' Hown.out ho hg.1; clear fin ho hg))
        go_roundw
        case rel => exact fin2
        case measure => simp [intOf]; omega
    · obtain rfl : cc = 0 := by omega
      have hkn : n ≤ k := by omega
      have hkm : m ≤ k := by omega
      have e := hv.out
      rw [Nat.mul_zero, Nat.add_zero, List.take_of_length_le (by have := hx.1; omega), List.take_of_length_le (by have := hy.1; omega)] at e
      obtain ⟨A1, c1, rfl, _, _, r1, _⟩ := hown.form
      have ht := rtrim_any A1 zs.length c1 zs wr r1 (by omega)
      have etz : tz zs = cn 10000 (vl 10000 xs + vl 10000 ys) := by rw [← e, cn_vl (by omega) dz]
      rw [etz] at ht
      obtain ⟨S, hS⟩ : ∃ S, Hid (cn 10000 (vl 10000 xs + vl 10000 ys) = S) := ⟨_, hide rfl⟩
      rw [hS.out] at ht
      obtain ⟨L, hL⟩ : ∃ L, zs.length = L := ⟨_, rfl⟩
      rw [hL] at ht ⊢
      have Hb := hide hbel
      clear hL hz e etz dz hv hown hbel r1 hx hy hxM hyM Dx Dy HM htop hgo
      go_wp2_with (go_at_call 62; refine ht.mono ?_; rintro e w' ⟨v, rfl, ho, hb⟩)
      go_ret
      have fo := ho.mono Hb.out.size
      have fb := Hb.out.trans (hb.mono Hb.out.size)
      rw [← hS.out] at fo
      exact ⟨_, rfl, fo, fb⟩
theorem rsub_step {k x y c lo cy : Nat} {zs xs ys : List Nat} (hz : zs.length = k) (hx : xs.getD k 0 = x) (hy : ys.getD k 0 = y) (e : lo + y + c = x + 10000 * cy)
    (h : vl 10000 zs + vl 10000 (ys.take k) = vl 10000 (xs.take k) + 10000 ^ k * c) :
    vl 10000 (zs ++ [lo]) + vl 10000 (ys.take (k + 1)) = vl 10000 (xs.take (k + 1)) + 10000 ^ (k + 1) * cy := by
  rw [vl_snoc, hz, vl_take_succ, vl_take_succ, hx, hy, Nat.pow_succ]
  have e2 : 10000 ^ k * lo + 10000 ^ k * y + 10000 ^ k * c = 10000 ^ k * x + 10000 ^ k * 10000 * cy := by
    rw [Nat.mul_assoc, ← Nat.mul_add, ← Nat.mul_add, e, Nat.mul_add]
  omega
theorem rsub_end {n cc : Nat} {xs ys zs : List Nat} (hx : xs.length = n) (dx : Dg 10000 xs) (hz : zs.length = n) (dz : Dg 10000 zs) (hle : vl 10000 ys ≤ vl 10000 xs)
    (e : vl 10000 zs + vl 10000 (ys.take n) = vl 10000 (xs.take n) + 10000 ^ n * cc) : vl 10000 zs = vl 10000 xs - vl 10000 ys := by
  rw [List.take_of_length_le (show xs.length ≤ n by omega)] at e
  have h1 := vl_lt dx
  have h2 := vl_lt dz
  rw [hx] at h1
  rw [hz] at h2
  have h3 := vl_cut 10000 ys n
  have h4 : vl 10000 (ys.drop n) = 0 := by
    rcases Nat.eq_zero_or_pos (vl 10000 (ys.drop n)) with h | h
    · exact h
    · have := Nat.mul_le_mul_left (10000 ^ n) h
      omega
  rw [h4, Nat.mul_zero] at h3
  have h5 : cc = 0 := by
    rcases Nat.eq_zero_or_pos cc with h | h
    · exact h
    · have := Nat.mul_le_mul_left (10000 ^ n) h
      omega
  subst h5
  omega
def RsRel (t : TypeId) (w : World) (n : Nat) (xs ys : List Nat) (v cv iv : Value) (wr : World) : Prop :=
  ∃ (k cc : Nat) (zs : List Nat), k ≤ n ∧ cc ≤ 1 ∧ iv = .int .i64 (k : Int) ∧ cv = .int .i64 (cc : Int) ∧ zs.length = k ∧ Dg 10000 zs ∧
    Hid (vl 10000 zs + vl 10000 (ys.take k) = vl 10000 (xs.take k) + 10000 ^ k * cc) ∧ Own .i64 t wr w.heap.size v zs ∧ Below w.heap.size w wr
set_option maxHeartbeats 2000000 in
theorem rsub_any (A D : Option Addr) (n c m d : Nat) (xs ys : List Nat) (w : World) (hx : Rd .i64 w w.heap.size A n xs) (hy : Rd .i64 w w.heap.size D m ys)
    (dx : Dg 10000 xs) (dy : Dg 10000 ys) (hn : n ≤ 800000000000) (hm : m ≤ 800000000000) (hle : vl 10000 ys ≤ vl 10000 xs) :
    Calls Tryz.prog 93 #[.slice A n c, .slice D m d] w (OwnRet .i64 3 w (cn 10000 (vl 10000 xs - vl 10000 ys))) := by
  obtain ⟨i0, hi, hz0, hz1, hz2⟩ := info_parts info_int
  have hml : m ≤ maxLen := by unfold maxLen; omega
  have Dx := hide dx
  have Dy := hide dy
  have Hle := hide hle
  clear dx dy hle
  have e0 : Hid (vl 10000 ([] : List Nat) + vl 10000 (ys.take 0) = vl 10000 (xs.take 0) + 10000 ^ 0 * 0) := hide (by simp [vl])
  go_enter Tryz.func93, Tryz.ntmps93
  go_wp2_with fail
  go_loopw [5, 6, 7] (fun v cv iv wr => RsRel 3 w n xs ys v cv iv wr) (fun _ _ iv _ => n - (intOf iv).toNat)
  case atStart => exact ⟨0, 0, [], by omega, by omega, rfl, rfl, rfl, Dg.nil, e0, own_empty .i64 3 w w.heap.size (Nat.le_refl _), (Below.refl _ _).alloc (Nat.le_refl _) _⟩
  case round =>
    obtain ⟨k, cc, zs, hk, hcc, rfl, rfl, hz, dz, hv, hown, hbel⟩ := hrel
    clear e0
    by_cases hlt : k < n
    · obtain ⟨x, ex⟩ : ∃ x, Hid (xs.getD k 0 = x) := ⟨_, hide rfl⟩
      obtain ⟨y, ey⟩ : ∃ y, Hid (ys.getD k 0 = y) := ⟨_, hide rfl⟩
      have bx : x < 10000 := by rw [← ex.out]; exact Dx.out.getD (by omega) k
      have bY : y < 10000 := by rw [← ey.out]; exact Dy.out.getD (by omega) k
      have hx2 := hx.below hbel (Nat.le_refl _)
      have hy2 := hy.below hbel (Nat.le_refl _)
      obtain ⟨b, o, rfl, _, hcx⟩ := hx2.at_ hlt
      rw [ex.out] at hcx
      have hsz := hbel.size
      have hl : zs.length + 1 ≤ 17592186044416 := by omega
      have Hown := hide hown
      have Hsz := hide hsz
      have Hl := hide hl
      have i1 : (k : Int) < (n : Int) := by omega
      have hnb : (n : Int) ≤ 800000000000 := by omega
      have e1 : IntKind.i64.wrap ((x : Int) - (y : Int)) = (x : Int) - (y : Int) := IntWalk.i64_in _ (by omega)
      by_cases hneg : x < y + cc
      · obtain ⟨lo, hlo⟩ : ∃ lo, lo + y + cc = x + 10000 * 1 := ⟨x + 10000 - y - cc, by omega⟩
        have e2 : IntKind.i64.wrap ((x : Int) - (y : Int) - (cc : Int)) = (lo : Int) - 10000 := by rw [IntWalk.i64_in _ (by omega)]; omega
        have e3 : (lo : Int) - 10000 + 10000 = (lo : Int) := by omega
        have e4 : decide ((lo : Int) - 10000 < 0) = true := decide_eq_true (by omega)
        have hlb : lo < 10000 := by omega
        have hv2 := rsub_step hz ex.out ey.out hlo hv.out
        have fin : ∀ nq u v' w', Own .i64 3 (wr.drewN nq) w.heap.size u zs → Own .i64 3 w' w.heap.size v' (zs ++ [lo]) → (wr.drewN nq).grownBy w' u.ownBlock → RsRel 3 w n xs ys v' (.int .i64 1) (.int .i64 ((k + 1 : Nat) : Int)) w' := by
          intro nq u v' w' hu ho hg
          exact ⟨k + 1, 1, _, by omega, by omega, rfl, rfl, by simp [hz], dz.append (Dg.cons hlb Dg.nil), hide hv2, ho, push_below (below_drewN hbel nq) hu hg hsz⟩
        clear hv hv2 hlo dz hz hx hy hown hbel hl hsz hneg Dx Dy Hle hx2
        go_wp2_with fail
        go_quiet ((go_at_call 94; exact Calls.quiet_of_same ((place_any w.heap.size D _ d k y ys _ (hy2.drewN _) hml ey).mono fun _ _ h => ⟨h.1, h.2.symm⟩)))
        clear e1 e2
        go_wp2_with (at_builtin; go_must (refine wpList_push rfl (.tmp 30) (.tmp 32) 49 rfl Tryz.underlying49 hi hz0 hz1 hz2 rfl (wr.drewN _) w.heap.size _ zs lo (Hown.out.drewN _) rfl rfl Hl.out (by decide) Hsz.out ?_); intro v' w' ho hg; have fin2 := fin _ _ v' w' (Hown.out.drewN _) ho hg.1; clear fin ho hg)
        go_roundw
        case rel => exact fin2
        case measure => simp [intOf]; omega
      · obtain ⟨lo, hlo⟩ : ∃ lo, lo + y + cc = x + 10000 * 0 := ⟨x - y - cc, by omega⟩
        have e2 : IntKind.i64.wrap ((x : Int) - (y : Int) - (cc : Int)) = (lo : Int) := by rw [IntWalk.i64_in _ (by omega)]; omega
        have e4 : decide ((lo : Int) < 0) = false := decide_eq_false (by omega)
        have hlb : lo < 10000 := by omega
        have hv2 := rsub_step hz ex.out ey.out hlo hv.out
        have fin : ∀ nq u v' w', Own .i64 3 (wr.drewN nq) w.heap.size u zs → Own .i64 3 w' w.heap.size v' (zs ++ [lo]) → (wr.drewN nq).grownBy w' u.ownBlock → RsRel 3 w n xs ys v' (.int .i64 0) (.int .i64 ((k + 1 : Nat) : Int)) w' := by
          intro nq u v' w' hu ho hg
          exact ⟨k + 1, 0, _, by omega, by omega, rfl, rfl, by simp [hz], dz.append (Dg.cons hlb Dg.nil), hide hv2, ho, push_below (below_drewN hbel nq) hu hg hsz⟩
        clear hv hv2 hlo dz hz hx hy hown hbel hl hsz hneg Dx Dy Hle hx2
        go_wp2_with fail
        go_quiet ((go_at_call 94; exact Calls.quiet_of_same ((place_any w.heap.size D _ d k y ys _ (hy2.drewN _) hml ey).mono fun _ _ h => ⟨h.1, h.2.symm⟩)))
        clear e1 e2
        go_wp2_with (at_builtin; go_must (refine wpList_push rfl (.tmp 30) (.tmp 32) 49 rfl Tryz.underlying49 hi hz0 hz1 hz2 rfl (wr.drewN _) w.heap.size _ zs lo (Hown.out.drewN _) rfl rfl Hl.out (by decide) Hsz.out ?_); intro v' w' ho hg; have fin2 := fin _ _ v' w' (Hown.out.drewN _) ho hg.1; clear fin ho hg)
        go_roundw
        case rel => exact fin2
        case measure => simp [intOf]; omega
    · obtain rfl : k = n := by omega
      have e := rsub_end hx.1 Dx.out hz dz Hle.out hv.out
      obtain ⟨A1, c1, rfl, _, _, r1, _⟩ := hown.form
      have ht := rtrim_any A1 zs.length c1 zs wr r1 (by omega)
      have etz : tz zs = cn 10000 (vl 10000 xs - vl 10000 ys) := by rw [← e, cn_vl (by omega) dz]
      rw [etz] at ht
      obtain ⟨S, hS⟩ : ∃ S, Hid (cn 10000 (vl 10000 xs - vl 10000 ys) = S) := ⟨_, hide rfl⟩
      rw [hS.out] at ht
      obtain ⟨L, hL⟩ : ∃ L, zs.length = L := ⟨_, rfl⟩
      rw [hL] at ht ⊢
      have Hb := hide hbel
      clear hL hz e etz dz hv hown hbel r1 hx hy Dx Dy Hle hlt
      go_wp2_with (go_at_call 62; refine ht.mono ?_; rintro e w' ⟨v, rfl, ho, hb⟩)
      go_ret
      have fo := ho.mono Hb.out.size
      have fb := Hb.out.trans (hb.mono Hb.out.size)
      rw [← hS.out] at fo
      exact ⟨_, rfl, fo, fb⟩
theorem make_int (n : Nat) (hn : n ≤ 1700000000000) (u : World) : (Instr.makeSlice 49 (.int .i64 (n : Int)) (.int .i64 (n : Int))).run Tryz.prog u =
    .ok (.slice (some ⟨u.heap.size, 0, none⟩) n n) (u.alloc (.cells (madeCells #[.int .i64 0] n) 3)) := by
  obtain ⟨i0, hi, hz0, hz1, hz2⟩ := info_parts info_int
  have h := run_make (P := Tryz.prog) u 49 3 i0 (.int .i64 0) Tryz.underlying49 hi hz0 .i64 .i64 (n : Int) (n : Int) (by omega) (Int.le_refl _) (by rw [hz2]; omega) (by omega)
  have e : (n : Int).toNat = n := by omega
  rw [e] at h
  simpa [hz1, Value.cells] using h
theorem vl_set (B : Nat) : ∀ (us : List Nat) (j x : Nat), j < us.length → vl B (us.set j x) + B ^ j * us.getD j 0 = vl B us + B ^ j * x
  | [], j, x, h => absurd h (by simp)
  | u :: us, 0, x, _ => by simp [vl]; omega
  | u :: us, j + 1, x, h => by
    have h1 := vl_set B us j x (by simpa using h)
    have h2 := congrArg (B * ·) h1
    simp only [Nat.mul_add] at h2
    simp only [List.set_cons_succ, vl, List.getD_cons_succ, Nat.pow_succ]
    rw [Nat.mul_comm (B ^ j) B, Nat.mul_assoc, Nat.mul_assoc]
    omega
theorem rmul_step {B i k u x y cc lo cy V : Nat} {us ys : List Nat} (hl : i + k < us.length) (hu : us.getD (i + k) 0 = u) (hy : ys.getD k 0 = y) (e : lo + B * cy = u + x * y + cc)
    (h : vl B us + B ^ (i + k) * cc = V + B ^ i * x * vl B (ys.take k)) :
    vl B (us.set (i + k) lo) + B ^ (i + (k + 1)) * cy = V + B ^ i * x * vl B (ys.take (k + 1)) := by
  have h1 := vl_set B us (i + k) lo hl
  rw [hu] at h1
  have e1 : B ^ (i + (k + 1)) * cy = B ^ (i + k) * (B * cy) := by rw [← Nat.add_assoc, Nat.pow_succ, Nat.mul_assoc]
  have e2 : B ^ i * x * vl B (ys.take (k + 1)) = B ^ i * x * vl B (ys.take k) + B ^ (i + k) * (x * y) := by
    rw [vl_take_succ, hy, Nat.mul_add, Nat.pow_add]
    congr 1
    rw [Nat.mul_assoc, Nat.mul_assoc]
    congr 1
    rw [Nat.mul_left_comm]
  rw [e1, e2]
  have e3 := congrArg (B ^ (i + k) * ·) e
  simp only [Nat.mul_add] at e3
  generalize B ^ (i + k) = P at *
  generalize B ^ i * x * vl B (ys.take k) = T at *
  omega
theorem rmul_row {B i x : Nat} {xs : List Nat} (Y : Nat) (hx : xs.getD i 0 = x) : vl B (xs.take i) * Y + B ^ i * x * Y = vl B (xs.take (i + 1)) * Y := by
  rw [vl_take_succ, hx, Nat.add_mul]
theorem rmul_top {i m cc x : Nat} {us xs ys : List Nat} (hx : xs.getD i 0 = x) (hi : i < xs.length) (hm : ys.length = m) (dx : Dg 10000 xs) (dy : Dg 10000 ys)
    (h : vl 10000 us + 10000 ^ (i + (m + 1)) * cc = vl 10000 (xs.take i) * vl 10000 ys + 10000 ^ i * x * vl 10000 (ys.take (m + 1))) : cc = 0 := by
  rw [List.take_of_length_le (show ys.length ≤ m + 1 by omega), rmul_row _ hx] at h
  rcases Nat.eq_zero_or_pos cc with h0 | h0
  · exact h0
  · have h1 := vl_lt (dx.take (i + 1))
    rw [List.length_take, Nat.min_eq_left (by omega)] at h1
    have h2 := vl_lt dy
    rw [hm] at h2
    have h3 := Nat.mul_lt_mul'' h1 h2
    rw [← Nat.pow_add, show i + 1 + m = i + (m + 1) by omega] at h3
    have h4 : 10000 ^ (i + (m + 1)) * 1 ≤ 10000 ^ (i + (m + 1)) * cc := Nat.mul_le_mul_left _ h0
    generalize 10000 ^ (i + (m + 1)) = P at *
    omega
def RmIn (t : TypeId) (w : World) (N i x m V : Nat) (ys : List Nat) (cv kv : Value) (wr : World) : Prop :=
  ∃ (k cc : Nat) (us : List Nat), k ≤ m + 1 ∧ Hid (k = m + 1 → cc = 0) ∧ cc < 10000 ∧ kv = .int .i64 (k : Int) ∧ cv = .int .i64 (cc : Int) ∧ Hid (us.length = N) ∧ Dg 10000 us ∧
    Hid (vl 10000 us + 10000 ^ (i + k) * cc = V + 10000 ^ i * x * vl 10000 (ys.take k)) ∧ Row .i64 t wr w.heap.size 0 (madeCells #[.int .i64 0] N) us ∧ Below w.heap.size w wr
def RmOut (t : TypeId) (w : World) (N n Y : Nat) (xs : List Nat) (iv : Value) (wr : World) : Prop :=
  ∃ (i : Nat) (us : List Nat), i ≤ n ∧ iv = .int .i64 (i : Int) ∧ Hid (us.length = N) ∧ Dg 10000 us ∧ Hid (vl 10000 us = vl 10000 (xs.take i) * Y) ∧
    Row .i64 t wr w.heap.size 0 (madeCells #[.int .i64 0] N) us ∧ Below w.heap.size w wr
set_option maxHeartbeats 4000000 in
theorem rmul_any (A D : Option Addr) (n c m d : Nat) (xs ys : List Nat) (w : World) (hx : Rd .i64 w w.heap.size A n xs) (hy : Rd .i64 w w.heap.size D m ys)
    (dx : Dg 10000 xs) (dy : Dg 10000 ys) (hn : n ≤ 400000000000) (hm : m ≤ 400000000000) :
    Calls Tryz.prog 66 #[.slice A n c, .slice D m d] w (OwnRet .i64 3 w (cn 10000 (vl 10000 xs * vl 10000 ys))) := by
  have hml : m ≤ maxLen := by unfold maxLen; omega
  have hmk := make_int (n + m + 1) (by omega)
  rw [Int.natCast_succ, Int.natCast_add] at hmk
  obtain ⟨N, hN⟩ : ∃ N, n + m + 1 = N := ⟨_, rfl⟩
  have eN : (n : Int) + (m : Int) + 1 = (N : Int) := by omega
  rw [hN, eN] at hmk
  have hNb : N ≤ 800000000001 := by omega
  have Dx := hide dx
  have Dy := hide dy
  have HN := hide hN
  obtain ⟨Y, hY⟩ : ∃ Y, Hid (vl 10000 ys = Y) := ⟨_, hide rfl⟩
  clear dx dy hN
  have e0 : Hid (vl 10000 (List.replicate N 0) = vl 10000 (xs.take 0) * Y) := hide (by rw [vl_replicate]; simp [vl])
  go_enter Tryz.func66, Tryz.ntmps66
  go_wp2_with fail
  go_loopw [6] (fun iv wr => RmOut 3 w N n Y xs iv wr) (fun iv _ => n - (intOf iv).toNat)
  case atStart =>
    exact ⟨0, List.replicate N 0, Nat.zero_le _, rfl, hide (by simp), Dg.replicate (by omega) N, e0, Row.made w .i64 3 N, (Below.refl _ _).alloc (Nat.le_refl _) _⟩
  case round =>
    obtain ⟨i, us, hi, rfl, hul, du, hv, hrow, hbel⟩ := hrel
    clear hmk e0
    by_cases hlt : i < n
    · obtain ⟨x, ex⟩ : ∃ x, Hid (xs.getD i 0 = x) := ⟨_, hide rfl⟩
      have bx : x < 10000 := by rw [← ex.out]; exact Dx.out.getD (by omega) i
      obtain ⟨V, hV⟩ : ∃ V, Hid (vl 10000 (xs.take i) * Y = V) := ⟨_, hide rfl⟩
      have e1 : Hid (vl 10000 us + 10000 ^ (i + 0) * 0 = V + 10000 ^ i * x * vl 10000 (ys.take 0)) := hide (by rw [hv.out, hV.out]; simp [vl])
      have Du := hide du
      have Hrow := hide hrow
      have Hbel := hide hbel
      clear hv du hrow hbel
      go_wp2_with fail
      go_loopw [7, 8] (fun cv kv wr => RmIn 3 w N i x m V ys cv kv wr) (fun _ kv _ => m + 1 - (intOf kv).toNat)
      case atStart => exact ⟨0, 0, us, Nat.zero_le _, hide (fun _ => rfl), by omega, rfl, rfl, hul, Du.out, e1, Hrow.out, Hbel.out⟩
      case round =>
        clear e1 hul Du Hrow Hbel us
        obtain ⟨k, cc, us, hk, htop, hcc, rfl, rfl, hul, du, hv, hrow, hbel⟩ := hrel
        by_cases hgo : k < m ∨ 0 < cc
        · have hkm : k ≤ m := by
            rcases Nat.lt_or_ge m k with h | h
            · have := htop.out (by omega)
              omega
            · exact h
          have hjl : i + k < us.length := by rw [hul.out]; have := HN.out; omega
          obtain ⟨u, eu⟩ : ∃ u, Hid (us.getD (i + k) 0 = u) := ⟨_, hide rfl⟩
          obtain ⟨y, ey⟩ : ∃ y, Hid (ys.getD k 0 = y) := ⟨_, hide rfl⟩
          have bu : u < 10000 := by rw [← eu.out]; exact du.getD (by omega) _
          have bY : y < 10000 := by rw [← ey.out]; exact Dy.out.getD (by omega) k
          obtain ⟨p, hp⟩ : ∃ p, x * y = p := ⟨_, rfl⟩
          have bp : p ≤ 99980001 := by rw [← hp]; exact Nat.mul_le_mul (show x ≤ 9999 by omega) (show y ≤ 9999 by omega)
          obtain ⟨lo, hlo⟩ : ∃ lo, (u + p + cc) % 10000 = lo := ⟨_, rfl⟩
          obtain ⟨cy, hcy⟩ : ∃ cy, (u + p + cc) / 10000 = cy := ⟨_, rfl⟩
          have hlb : lo < 10000 := by omega
          have hcb : cy < 10000 := by omega
          have hv2 := rmul_step (lo := lo) (cy := cy) hjl eu.out ey.out (by rw [hp]; omega) hv.out
          have htop2 : Hid (k + 1 = m + 1 → cy = 0) := hide (fun h => by
            rw [h, ← hV.out, ← hY.out] at hv2
            exact rmul_top ex.out (by have := hx.1; omega) hy.1 Dx.out Dy.out hv2)
          have Hv2 := hide hv2
          have er : Int.tmod ((u : Int) + (p : Int) + (cc : Int)) 10000 = (lo : Int) := by rw [← hlo]; exact (Int.ofNat_tmod (u + p + cc) 10000).symm
          have eq : Int.tdiv ((u : Int) + (p : Int) + (cc : Int)) 10000 = (cy : Int) := by rw [← hcy]; exact (Int.ofNat_tdiv (u + p + cc) 10000).symm
          have exy : (x : Int) * (y : Int) = (p : Int) := by rw [← hp, Int.natCast_mul]
          obtain ⟨j, hj⟩ : ∃ j, i + k = j := ⟨_, rfl⟩
          have ej : IntKind.i64.wrap ((i : Int) + (k : Int)) = (j : Int) := by rw [IntWalk.i64_in _ (by omega)]; omega
          have ep : IntKind.i64.wrap ((x : Int) * (y : Int)) = (p : Int) := by rw [exy, IntWalk.i64_in _ (by omega)]
          have es : IntKind.i64.wrap ((u : Int) + (p : Int)) = (u : Int) + (p : Int) := IntWalk.i64_in _ (by omega)
          have es2 : IntKind.i64.wrap ((u : Int) + (p : Int) + (cc : Int)) = (u : Int) + (p : Int) + (cc : Int) := IntWalk.i64_in _ (by omega)
          have hcu := hrow.cell hjl
          have hfr := hrow.frozen (0 + (i + k))
          have hst := hrow.set_ hjl lo
          rw [eu.out] at hcu
          rw [hj] at hcu hfr hst Hv2 hjl
          rw [Nat.zero_add] at hcu hfr hst
          have hjN : (j : Int) < (N : Int) := by have := hul.out; omega
          have hul2 : Hid ((us.set j lo).length = N) := hide (by rw [List.length_set]; exact hul.out)
          have du2 : Dg 10000 (us.set j lo) := du.set j hlb
          have hx2 := hx.below hbel (Nat.le_refl _)
          have hy2 := hy.below hbel (Nat.le_refl _)
          obtain ⟨b, o, rfl, _, hcx⟩ := hx2.at_ hlt
          rw [ex.out] at hcx
          have hb2 : ∀ nq, Below w.heap.size w ((wr.drewN nq).setCell ⟨w.heap.size, j, none⟩ (.int .i64 (lo : Int))) := fun nq => (below_drewN hbel nq).setCell (Nat.le_refl _) _
          have fin : ∀ nq, RmIn 3 w N i x m V ys (.int .i64 (cy : Int)) (.int .i64 ((k + 1 : Nat) : Int)) ((wr.drewN nq).setCell ⟨w.heap.size, j, none⟩ (.int .i64 (lo : Int))) := fun nq =>
            ⟨k + 1, cy, _, by omega, htop2, hcb, rfl, rfl, hul2, du2, Hv2, (by have h9 := hrow.drewN nq; have h8 := h9.set_ hjl lo; rw [Nat.zero_add] at h8; exact h8), hb2 nq⟩
          have hjb : j ≤ 800000000000 := by omega
          clear hst hb2 hul2 du2 Hv2 htop2 hv2 hv hul du htop hrow hbel hx2 hlo hcy hp exy bu bY bp Dx Dy HN hjl hV hj
          have hsplit : k < m ∨ (m ≤ k ∧ 0 < cc) := by omega
          clear hgo
          rcases hsplit with h1 | ⟨h1, h2⟩
          all_goals
            go_wp2_with fail
            go_quiet ((go_at_call 94; exact Calls.quiet_of_same ((place_any w.heap.size D _ d k y ys _ (hy2.drewN _) hml ey).mono fun _ _ h => ⟨h.1, h.2.symm⟩)))
            go_wp2_with fail
            go_roundw
            case rel => exact fin _
            case measure => simp [intOf]; omega
        · obtain rfl : cc = 0 := by omega
          have hkm : m ≤ k := by omega
          have e := hv.out
          rw [Nat.mul_zero, Nat.add_zero, List.take_of_length_le (by have := hy.1; omega), hY.out, ← hV.out, rmul_row _ ex.out] at e
          have fin : RmOut 3 w N n Y xs (.int .i64 ((i + 1 : Nat) : Int)) wr := ⟨i + 1, us, by omega, rfl, hul, du, hide e, hrow, hbel⟩
          clear hv e htop hul du hrow hbel hgo Dx Dy HN hV hx hy
          go_wp2_with fail
          go_roundw
          case rel => exact fin
          case measure => simp [intOf]; omega
    · obtain rfl : i = n := by omega
      have e := hv.out
      rw [List.take_of_length_le (by have := hx.1; omega), ← hY.out] at e
      have hL := hul.out
      have r1 : Rd .i64 wr wr.heap.size (some ⟨w.heap.size, 0, none⟩) N us := ⟨hL, fun _ => ⟨_, _, rfl, hrow.lt, fun j hj => hrow.cell (by omega)⟩⟩
      have ht := rtrim_any (some ⟨w.heap.size, 0, none⟩) N N us wr r1 (by omega)
      have etz : tz us = cn 10000 (vl 10000 xs * vl 10000 ys) := by rw [← e, cn_vl (by omega) du]
      rw [etz] at ht
      obtain ⟨S, hS⟩ : ∃ S, Hid (cn 10000 (vl 10000 xs * vl 10000 ys) = S) := ⟨_, hide rfl⟩
      rw [hS.out] at ht
      have Hb := hide hbel
      clear hL e etz du hv hul hrow hbel r1 hx hy hY HN Dx Dy hlt
      go_wp2_with (go_at_call 62; refine ht.mono ?_; rintro e w' ⟨v, rfl, ho, hb⟩)
      go_ret
      have fo := ho.mono Hb.out.size
      have fb := Hb.out.trans (hb.mono Hb.out.size)
      rw [← hS.out] at fo
      exact ⟨_, rfl, fo, fb⟩
def Iw (w : World) (v : Value) (x L : Nat) : Prop :=
  ∃ A n c xs, v = .slice A n c ∧ Rd .i64 w w.heap.size A n xs ∧ Dg 10000 xs ∧ vl 10000 xs = x ∧ n ≤ L
def Ic (w : World) (v : Value) (x L : Nat) : Prop :=
  ∃ A c, v = .slice A (cn 10000 x).length c ∧ Rd .i64 w w.heap.size A (cn 10000 x).length (cn 10000 x) ∧ (cn 10000 x).length ≤ L
theorem B_two : 2 ≤ 10000 := by omega
theorem Iw.step {w w' : World} {v : Value} {x L : Nat} (h : Iw w v x L) (hb : Below w.heap.size w w') : Iw w' v x L := by
  obtain ⟨A, n, c, xs, e, h1, h2⟩ := h
  exact ⟨A, n, c, xs, e, (h1.below hb (Nat.le_refl _)).more hb.size, h2⟩
theorem Ic.step {w w' : World} {v : Value} {x L : Nat} (h : Ic w v x L) (hb : Below w.heap.size w w') : Ic w' v x L := by
  obtain ⟨A, c, e, h1, h2⟩ := h
  exact ⟨A, c, e, (h1.below hb (Nat.le_refl _)).more hb.size, h2⟩
theorem Ic.iw {w : World} {v : Value} {x L : Nat} (h : Ic w v x L) : Iw w v x L := by
  obtain ⟨A, c, e, h1, h2⟩ := h
  exact ⟨A, _, c, _, e, h1, dg_cn B_two x, vl_cn B_two x, h2⟩
theorem Iw.lt {w : World} {v : Value} {x L : Nat} (h : Iw w v x L) : x < 10000 ^ L := by
  obtain ⟨A, n, c, xs, e, h1, dx, rfl, hL⟩ := h
  have := vl_lt dx
  rw [h1.len] at this
  exact Nat.lt_of_lt_of_le this (Nat.pow_le_pow_right (by omega) hL)
theorem Ic.of {w : World} {B : Nat} {v : Value} {x L : Nat} (h : Own .i64 3 w B v (cn 10000 x)) (hL : x < 10000 ^ L) : Ic w v x L := by
  obtain ⟨A, c, rfl, h1, h2, h3, _⟩ := h.form
  exact ⟨A, c, rfl, h3, cn_length_le B_two hL⟩
theorem Ic.more {w : World} {v : Value} {x L M : Nat} (h : Ic w v x L) (hL : L ≤ M) : Ic w v x M := by
  obtain ⟨A, c, e, h1, h2⟩ := h
  exact ⟨A, c, e, h1, by omega⟩
def INew (w : World) (x L : Nat) (e : Ending) (w' : World) : Prop := ∃ r, e = .returned r ∧ Own .i64 3 w' w.heap.size r (cn 10000 x) ∧ Ic w' r x L ∧ Below w.heap.size w w'
theorem INew.of {w : World} {x L : Nat} {e : Ending} {w' : World} (h : OwnRet .i64 3 w (cn 10000 x) e w') (hL : x < 10000 ^ L) : INew w x L e w' := by
  obtain ⟨r, he, ho, hb⟩ := h
  exact ⟨r, he, ho, Ic.of ho hL, hb⟩
theorem iadd {w : World} {u v : Value} {x y L M K : Nat} (hu : Iw w u x L) (hv : Iw w v y M) (hK : K ≤ 800000000000) (hLK : L ≤ K) (hMK : M ≤ K) :
    Calls Tryz.prog 65 #[u, v] w (INew w (x + y) (K + 1)) := by
  have lx := hu.lt
  have ly := hv.lt
  obtain ⟨A, n, c, xs, rfl, hx, dx, rfl, hn⟩ := hu
  obtain ⟨D, m, d, ys, rfl, hy, dy, rfl, hm⟩ := hv
  refine (radd_any A D n c m d xs ys w hx hy dx dy (by omega) (by omega)).mono fun e w' h => INew.of h ?_
  have h1 : 10000 ^ L ≤ 10000 ^ K := Nat.pow_le_pow_right (by omega) hLK
  have h2 : 10000 ^ M ≤ 10000 ^ K := Nat.pow_le_pow_right (by omega) hMK
  have h6 : 10000 ^ (K + 1) = 10000 ^ K * 10000 := Nat.pow_succ ..
  omega
theorem imul {w : World} {u v : Value} {x y L M : Nat} (hu : Iw w u x L) (hv : Iw w v y M) (hL : L ≤ 400000000000) (hM : M ≤ 400000000000) :
    Calls Tryz.prog 66 #[u, v] w (INew w (x * y) (L + M)) := by
  have lx := hu.lt
  have ly := hv.lt
  obtain ⟨A, n, c, xs, rfl, hx, dx, rfl, hn⟩ := hu
  obtain ⟨D, m, d, ys, rfl, hy, dy, rfl, hm⟩ := hv
  refine (rmul_any A D n c m d xs ys w hx hy dx dy (by omega) (by omega)).mono fun e w' h => INew.of h ?_
  rw [Nat.pow_add]
  exact Nat.mul_lt_mul'' lx ly
theorem isub {w : World} {u v : Value} {x y L M : Nat} (hu : Iw w u x L) (hv : Iw w v y M) (hL : L ≤ 800000000000) (hM : M ≤ 800000000000) (hle : y ≤ x) :
    Calls Tryz.prog 93 #[u, v] w (INew w (x - y) L) := by
  have lx := hu.lt
  obtain ⟨A, n, c, xs, rfl, hx, dx, rfl, hn⟩ := hu
  obtain ⟨D, m, d, ys, rfl, hy, dy, rfl, hm⟩ := hv
  exact (rsub_any A D n c m d xs ys w hx hy dx dy (by omega) (by omega) hle).mono fun e w' h => INew.of h (by omega)
theorem icmp {w : World} {u v : Value} {x y L M : Nat} (hu : Iw w u x L) (hv : Iw w v y M) (hL : L ≤ 800000000000) (hM : M ≤ 800000000000) :
    Calls Tryz.prog 92 #[u, v] w fun e w' => e = .returned (.int .i64 (cmpN x y)) ∧ w = w' := by
  obtain ⟨A, n, c, xs, rfl, hx, dx, rfl, hn⟩ := hu
  obtain ⟨D, m, d, ys, rfl, hy, dy, rfl, hm⟩ := hv
  exact rcmp_any _ A D n c m d xs ys w hx hy dx dy (by unfold maxLen; omega) (by unfold maxLen; omega)
theorem ismall {x L : Nat} (w : World) (hx : x ≤ 9223372036854775807) (hL : x < 10000 ^ L) :
    Calls Tryz.prog 61 #[.int .i64 (x : Int)] w (INew w x L) :=
  (small_any x w hx).mono fun e w' h => INew.of h hL
theorem itrim {w : World} {u : Value} {x L : Nat} (hu : Iw w u x L) (hL : L ≤ 800000000000) :
    Calls Tryz.prog 62 #[u] w (INew w x L) := by
  have lx := hu.lt
  obtain ⟨A, n, c, xs, rfl, hx, dx, rfl, hn⟩ := hu
  refine (rtrim_any A n c xs w hx (by omega)).mono fun e w' h => INew.of ?_ lx
  rw [cn_vl B_two dx]
  exact h
theorem vl_drop_le {B : Nat} (hB : 0 < B) (xs : List Nat) (k : Nat) : vl B (xs.drop k) ≤ vl B xs := by
  have h := vl_cut B xs k
  have h1 : 1 ≤ B ^ k := Nat.pow_pos hB
  have h2 := Nat.mul_le_mul_right (vl B (xs.drop k)) h1
  rw [Nat.one_mul] at h2
  omega
set_option maxHeartbeats 1000000 in
theorem rvalue_any (B : Nat) (A : Option Addr) (n c : Nat) (xs : List Nat) (w : World) (hx : Rd .i64 w B A n xs) (hn : n ≤ 800000000000) (hv : vl 10000 xs ≤ 4611686018427387904) :
    Calls Tryz.prog 64 #[.slice A n c] w (QuietRet w (.int .i64 ((vl 10000 xs : Nat) : Int))) := by
  obtain ⟨V, hV⟩ : ∃ V, Hid (vl 10000 xs = V) := ⟨_, hide rfl⟩
  have hv2 : Hid (∀ k, vl 10000 (xs.drop k) ≤ 4611686018427387904) := hide (fun k => Nat.le_trans (vl_drop_le (by omega) xs k) hv)
  have e0 : Hid (vl 10000 (xs.drop n) = 0) := hide (by rw [List.drop_eq_nil_of_le (by have := hx.1; omega)]; rfl)
  rw [hV.out]
  clear hv
  go_enter Tryz.func64, Tryz.ntmps64
  go_wp2_with fail
  go_loop [3, 4] (fun nv iv => ∃ k u : Nat, k ≤ n ∧ iv = .int .i64 ((k : Int) - 1) ∧ nv = .int .i64 (u : Int) ∧ Hid (vl 10000 (xs.drop k) = u)) (fun _ iv => (intOf iv + 1).toNat)
  case atStart => exact ⟨n, 0, Nat.le_refl _, rfl, rfl, e0⟩
  case round =>
    obtain ⟨k, u, hk, rfl, rfl, hu⟩ := hrel
    clear e0
    rcases Nat.eq_zero_or_pos k with h0 | h0
    · subst h0
      have e := hu.out
      rw [List.drop_zero, hV.out] at e
      clear hu hx
      go_wp2_with fail
      go_ret
      exact ⟨by first | rfl | (rw [e]; rfl), 0, rfl⟩
    · obtain ⟨j, rfl⟩ : ∃ j, k = j + 1 := ⟨k - 1, by omega⟩
      have ej : ((j + 1 : Nat) : Int) - 1 = (j : Int) := by omega
      rw [ej]
      obtain ⟨x, ex⟩ : ∃ x, Hid (xs.getD j 0 = x) := ⟨_, hide rfl⟩
      obtain ⟨b, o, rfl, _, hcx⟩ := hx.at_ (show j < n by omega)
      rw [ex.out] at hcx
      have hu2 : Hid (vl 10000 (xs.drop j) = x + 10000 * u) := hide (by rw [vl_drop 10000 xs j, ex.out, hu.out])
      have hub := hv2.out j
      rw [hu2.out] at hub
      have e1 : IntKind.i64.wrap ((u : Int) * 10000) = (u : Int) * 10000 := IntWalk.i64_in _ (by omega)
      have e2 : IntKind.i64.wrap ((u : Int) * 10000 + (x : Int)) = ((x + 10000 * u : Nat) : Int) := by rw [IntWalk.i64_in _ (by omega)]; omega
      have i1 : (j : Int) < (n : Int) := by omega
      obtain ⟨z, hz⟩ : ∃ z, x + 10000 * u = z := ⟨_, rfl⟩
      rw [hz] at e2 hu2
      have fin : ∃ k u : Nat, k ≤ n ∧ Value.int .i64 ((j : Int) - 1) = .int .i64 ((k : Int) - 1) ∧ Value.int .i64 (z : Int) = .int .i64 (u : Int) ∧ Hid (vl 10000 (xs.drop k) = u) :=
        ⟨j, z, by omega, rfl, rfl, hu2⟩
      clear hz hu hu2 hub hv2 ej hx
      go_wp2_with fail
      go_round
      case rel => exact fin
      case measure => simp [intOf]
theorem ivalue {w : World} {u : Value} {x L : Nat} (hu : Iw w u x L) (hL : L ≤ 800000000000) (hx : x ≤ 4611686018427387904) :
    Calls Tryz.prog 64 #[u] w (QuietRet w (.int .i64 (x : Int))) := by
  obtain ⟨A, n, c, xs, rfl, h, dx, rfl, hn⟩ := hu
  exact rvalue_any _ A n c xs w h (by omega) hx
theorem run_cons {P : Program} {k : IntKind} {t e : TypeId} {i : TypeInfo} {z : Value} {by_ : Nat} (ht : P.underlying t = some (.slice e)) (hi : P.info? e = some i) (hz : i.zero = some z)
    (hsize : i.size = 1) (hby : i.bytes = by_) (hzs : z.cells.size = 1) (ty : TypeId) (w : World) (x : Nat) (ad : Addr) (n c : Nat) (xs : List Nat) (hx : Rd k w w.heap.size (some ad) n xs)
    (hlen : n + 1 ≤ 17592186044416) (hb8 : by_ ≤ 8) :
    ∃ v' w', (Builtin.append_ #[t, t] ty #[.slice (some ⟨w.heap.size, 0, none⟩) 1 1, .slice (some ad) n c]).run P (w.alloc (.cells #[.int k (x : Int)] e)) = .ok v' w' ∧ Own k e w' w.heap.size v' (x :: xs) ∧ Below w.heap.size w w' := by
  have h0 : (w.alloc (.cells #[.int k (x : Int)] e)).ownsRow w.heap.size e 1 (.slice (some ⟨w.heap.size, 0, none⟩) 1 1) 1 ([x].map fun n : Nat => Value.int k (n : Int)) :=
    Own.toOwns (xs := [x]) (Own.of_row (Row.new w k e #[.int k (x : Int)] [x] (Nat.le_refl _) (fun j hj => by
      match j, hj with
      | 0, _ => rfl)) (Nat.le_refl _) rfl (by simp [maxLen]))
  obtain ⟨v', w', hr, h2, h3, -, h5⟩ := run_append_own_at (P := P) (w.alloc (.cells #[.int k (x : Int)] e)) w.heap.size t ty e i z 1 by_ ht hi hz hsize hby hzs (by omega) _ 1 _ h0
    ad n c (xs.map fun n : Nat => Value.int k (n : Int)) (by simp [hx.1]) (by
      intro j u hj
      have hjn : j < n := by
        rw [List.getElem?_map] at hj
        rcases Nat.lt_or_ge j xs.length with h | h
        · rw [hx.1] at h; exact h
        · rw [List.getElem?_eq_none h] at hj; cases hj
      obtain ⟨b, off, he, hb, hc⟩ := hx.at_ hjn
      cases he
      have hl := hx.1
      rw [List.getElem?_map, List.getElem?_eq_getElem (by omega)] at hj
      simp at hj
      subst hj
      have e1 : (⟨b, off, none⟩ : Addr).add j = ⟨b, off + j, none⟩ := by
        unfold Addr.add
        by_cases h : j = 0
        · subst h; simp
        · simp [h]
      rw [e1, World.cell?_alloc_lt _ _ _ (by simpa using hb), hc]
      simp [List.getD_eq_getElem?_getD, show j < xs.length by omega]) (by intro u hu; simp at hu; obtain ⟨a, _, rfl⟩ := hu; rfl) (by unfold maxLen; omega)
      (by
        have h := Nat.mul_le_mul hlen hb8
        rw [Nat.add_comm 1 n]
        omega) (by simp)
  refine ⟨v', w', hr, Own.ofOwns (n := 1 + n) (by simp [hx.1]; omega) (by simpa using h2), ?_⟩
  refine ((Below.refl w.heap.size w).alloc (Nat.le_refl _) _).grown h3 (by simp) (fun g hg => ?_)
  simp [Value.ownBlock] at hg
  omega
theorem run_cons_nil {P : Program} {k : IntKind} {t e : TypeId} {i : TypeInfo} (ht : P.underlying t = some (.slice e)) (hi : P.info? e = some i) (hsize : i.size = 1) (ty : TypeId) (w : World) (x : Nat) :
    (Builtin.append_ #[t, t] ty #[.slice (some ⟨w.heap.size, 0, none⟩) 1 1, .slice none 0 0]).run P (w.alloc (.cells #[.int k (x : Int)] e)) = .ok (.slice (some ⟨w.heap.size, 0, none⟩) 1 1) (w.alloc (.cells #[.int k (x : Int)] e)) := by
  simp [Builtin.append_, run_underlying ht, sizeOf, typeInfo, hi, Builtin.lenOf, Builtin.firstCells, storeCells]
theorem run_cons_own {P : Program} {k : IntKind} {t e : TypeId} {i : TypeInfo} {z : Value} {by_ : Nat} (ht : P.underlying t = some (.slice e)) (hi : P.info? e = some i) (hz : i.zero = some z)
    (hsize : i.size = 1) (hby : i.bytes = by_) (hzs : z.cells.size = 1) (ty : TypeId) (w : World) (x B : Nat) (v : Value) (xs : List Nat) (hx : Own k e w B v xs)
    (hlen : xs.length + 1 ≤ 17592186044416) (hb8 : by_ ≤ 8) :
    ∃ v' w', (Builtin.append_ #[t, t] ty #[.slice (some ⟨w.heap.size, 0, none⟩) 1 1, v]).run P (w.alloc (.cells #[.int k (x : Int)] e)) = .ok v' w' ∧ Own k e w' w.heap.size v' (x :: xs) ∧ Below w.heap.size w w' := by
  rcases hx with ⟨rfl, rfl⟩ | ⟨g, cap, C, rfl, hB, hr, hC, hm⟩
  · refine ⟨_, _, run_cons_nil ht hi hsize ty w x, ?_, (Below.refl _ _).alloc (Nat.le_refl _) _⟩
    exact Own.of_row (xs := [x]) (Row.new w k e #[.int k (x : Int)] [x] (Nat.le_refl _) (fun j hj => by
      match j, hj with
      | 0, _ => rfl)) (Nat.le_refl _) rfl (by simp [maxLen])
  · exact run_cons ht hi hz hsize hby hzs ty w x ⟨g, 0, none⟩ xs.length cap xs ⟨rfl, fun _ => ⟨g, 0, rfl, hr.lt, fun j hj => hr.cell hj⟩⟩ hlen hb8
theorem wpList_cons {P : Program} {ops : Array Oper} {rest : List Oper} {o : Oper} {a : Act} {Q : Exit → Act → World → Prop} (hgd : o.guard = none) (s y : Operand) (t : TypeId)
    (ho : o.op = .call { callee := .builtin .append, args := #[s, y], argTypes := #[t, t] })
    {k : IntKind} {e : TypeId} {i : TypeInfo} {z : Value} {by_ : Nat} (ht : P.underlying t = some (.slice e)) (hi : P.info? e = some i) (hz : i.zero = some z)
    (hsize : i.size = 1) (hby : i.bytes = by_) (hzs : z.cells.size = 1) (w : World) (x B : Nat) (v : Value) (xs : List Nat) (hx : Own k e w B v xs)
    (hs : a.eval s = .slice (some ⟨w.heap.size, 0, none⟩) 1 1) (hy : a.eval y = v)
    (hlen : xs.length + 1 ≤ 17592186044416) (hb8 : by_ ≤ 8)
    (h : ∀ v' w', Own k e w' w.heap.size v' (x :: xs) → Below w.heap.size w w' → wpList P ops Q rest (a.put o.dst v') w') :
    wpList P ops Q (o :: rest) a (w.alloc (.cells #[.int k (x : Int)] e)) :=
  wpList_plain hgd fun _ hK => by
    obtain ⟨v', w', hr, h2, h3⟩ := run_cons_own (P := P) ht hi hz hsize hby hzs o.type w x B v xs hx hlen hb8
    unfold Oper.wp execOp
    simp only [ho, resolve, invoke, builtin, Sem.run_bind, Sem.run_pure, Result.andThen_ok, List.map_toArray, List.map_cons, List.map_nil, hs, hy, hr]
    exact hK _ _ (h v' w' h2 h3)
theorem iw_one (w : World) (t : TypeId) {x : Nat} (hx : x < 10000) : Iw (w.alloc (.cells #[.int .i64 (x : Int)] t)) (.slice (some ⟨w.heap.size, 0, none⟩) 1 1) x 1 :=
  ⟨_, 1, 1, [x], rfl, ⟨rfl, fun _ => ⟨w.heap.size, 0, rfl, by simp, fun j hj => by
    obtain rfl : j = 0 := by omega
    simp⟩⟩, Dg.cons hx Dg.nil, by simp [vl], Nat.le_refl _⟩
theorem Own.setFar {k : IntKind} {e : TypeId} {w : World} {B : Nat} {v : Value} {xs : List Nat} (h : Own k e w B v xs) {p : Addr} (hp : p.block < B) (u : Value) : Own k e (w.setCell p u) B v xs := by
  rcases h with h | ⟨g, cap, C, rfl, hB, hr, r⟩
  · exact .inl h
  · exact .inr ⟨g, cap, C, rfl, hB, hr.far (by omega) u, r⟩
theorem fill_back (j low : Nat) (qs : List Nat) : (List.replicate (j + 1) 0 ++ qs).set j low = List.replicate j 0 ++ low :: qs := by
  rw [List.replicate_succ', List.append_assoc, List.set_append_right _ _ (by simp)]
  simp
theorem rdiv_step {j x lo Y R S qv : Nat} {xs : List Nat} (hx : xs.getD j 0 = x) (h : qv * Y + R = vl 10000 (xs.drop (j + 1))) (hS : S = x + 10000 * R) :
    (lo + 10000 * qv) * Y + (S - lo * Y) = vl 10000 (xs.drop j) + (lo * Y - S) := by
  rw [vl_drop 10000 xs j, hx, ← h, Nat.add_mul, Nat.mul_assoc, Nat.mul_add]
  omega
def DmOut (t : TypeId) (w : World) (n Y M : Nat) (xs : List Nat) (rv iv : Value) (wr : World) : Prop :=
  ∃ (k R : Nat) (qs : List Nat), k ≤ n ∧ iv = .int .i64 ((k : Int) - 1) ∧ Hid (qs.length + k = n) ∧ Dg 10000 qs ∧ Hid (vl 10000 qs * Y + R = vl 10000 (xs.drop k)) ∧ Hid (R < Y) ∧
    Own .i64 t wr (w.heap.size + 1) rv (cn 10000 R) ∧ Row .i64 t wr w.heap.size 0 (madeCells #[.int .i64 0] n) (List.replicate k 0 ++ qs) ∧ Below w.heap.size w wr
def DmIn (w1 : World) (Y S : Nat) (lv hv : Value) (wr : World) : Prop :=
  ∃ lo hi : Nat, lo < hi ∧ hi ≤ 10000 ∧ lv = .int .i64 (lo : Int) ∧ hv = .int .i64 (hi : Int) ∧ Hid (lo * Y ≤ S) ∧ Hid (S < hi * Y) ∧ Below w1.heap.size w1 wr
def DmRet (t : TypeId) (w : World) (X Y : Nat) (e : Ending) (w' : World) : Prop :=
  ∃ q r, e = .returned (.tuple #[q, r]) ∧ Own .i64 t w' w.heap.size q (cn 10000 (X / Y)) ∧ Own .i64 t w' w.heap.size r (cn 10000 (X % Y)) ∧ Below w.heap.size w w'
set_option maxHeartbeats 4000000 in
theorem rdivmod_any (A : Option Addr) (n c : Nat) (xs : List Nat) (bv : Value) (Y M : Nat) (w : World) (hx : Rd .i64 w w.heap.size A n xs) (hy : Iw w bv Y M)
    (dx : Dg 10000 xs) (hY : 0 < Y) (hn : n ≤ 100000000000) (hm : M ≤ 100000000000) :
    Calls Tryz.prog 63 #[.slice A n c, bv] w (DmRet 3 w (vl 10000 xs) Y) := by
  obtain ⟨i0, hi, hz0, hz1, hz2⟩ := info_parts info_int
  have hmk := make_int n (by omega)
  have Dx := hide dx
  have HY := hide hY
  have hYM := hide hy.lt
  have HB := hide hy
  obtain ⟨X, hX⟩ : ∃ X, Hid (vl 10000 xs = X) := ⟨_, hide rfl⟩
  have e0 : Hid (vl 10000 ([] : List Nat) * Y + 0 = vl 10000 (xs.drop n)) := hide (by rw [List.drop_eq_nil_of_le (by have := hx.1; omega)]; simp [vl])
  rw [hX.out]
  clear dx hY hy
  go_enter Tryz.func63, Tryz.ntmps63
  go_wp2_with fail
  go_loopw [7, 8] (fun rv iv wr => DmOut 3 w n Y M xs rv iv wr) (fun _ iv _ => (intOf iv + 1).toNat)
  case atStart =>
    refine ⟨n, 0, [], Nat.le_refl _, rfl, hide (by simp), Dg.nil, e0, HY, ?_, ?_, ?_⟩
    · rw [cn_zero]
      have h := own_empty .i64 3 (w.alloc (.cells (madeCells #[.int .i64 0] n) 3)) (w.heap.size + 1) (by simp)
      simpa using h
    · rw [List.append_nil]
      exact (Row.made w .i64 3 n).alloc _
    · exact ((Below.refl _ _).alloc (Nat.le_refl _) _).alloc (by simp) _
  case round =>
    obtain ⟨k, R, qs, hk, rfl, hql, dq, hv, hR, hown, hrow, hbel⟩ := hrel
    clear e0 hmk
    rcases Nat.eq_zero_or_pos k with h0 | h0
    · subst h0
      have e := hv.out
      rw [List.drop_zero, hX.out] at e
      have eq : X / Y = vl 10000 qs := by rw [← e]; exact (Nat.div_eq_of_lt_le (by omega) (by rw [Nat.add_mul]; have := hR.out; omega))
      have er : X % Y = R := by rw [← e, Nat.add_comm, Nat.add_mul_mod_self_right]; exact Nat.mod_eq_of_lt hR.out
      rw [List.replicate_zero, List.nil_append] at hrow
      have hL := hql.out
      rw [Nat.add_zero] at hL
      have r1 : Rd .i64 wr wr.heap.size (some ⟨w.heap.size, 0, none⟩) n qs := ⟨hL, fun _ => ⟨_, _, rfl, hrow.lt, fun j hj => hrow.cell (by omega)⟩⟩
      have ht := rtrim_any (some ⟨w.heap.size, 0, none⟩) n n qs wr r1 (by omega)
      have etz : tz qs = cn 10000 (X / Y) := by rw [eq, cn_vl B_two dq]
      rw [etz] at ht
      have Er := hide er
      have Hown := hide hown
      have Hbel := hide hbel
      have Ht := hide ht
      clear hL e etz dq hv hql hrow hbel r1 hx hR hX Dx hown ht eq er HB hYM HY hn hm
      go_wp2_with (go_at_call 62; refine Ht.out.mono ?_; rintro e w' ⟨v, rfl, ho, hb⟩)
      go_ret2
      have fo := ho.mono Hbel.out.size
      have fr := (Hown.out.below hb (Nat.le_refl _)).mono (show w.heap.size ≤ w.heap.size + 1 by omega)
      have fb := Hbel.out.trans (hb.mono Hbel.out.size)
      rw [← Er.out] at fr
      exact ⟨_, _, rfl, fo, fr, fb⟩
    · obtain ⟨j, rfl⟩ : ∃ j, k = j + 1 := ⟨k - 1, by omega⟩
      obtain ⟨wo, hwo⟩ : ∃ wo, wo = wr := ⟨_, rfl⟩
      subst hwo
      have ej : ((j + 1 : Nat) : Int) - 1 = (j : Int) := by omega
      rw [ej]
      obtain ⟨x, ex⟩ : ∃ x, Hid (xs.getD j 0 = x) := ⟨_, hide rfl⟩
      have bx : x < 10000 := by rw [← ex.out]; exact Dx.out.getD (by omega) j
      have hx2 := hx.below hbel (Nat.le_refl _)
      obtain ⟨b, o, rfl, hbb, hcx⟩ := hx2.at_ (show j < n by omega)
      rw [ex.out] at hcx
      have i1 : (j : Int) < (n : Int) := by omega
      obtain ⟨S, hS⟩ : ∃ S, Hid (S = x + 10000 * R) := ⟨_, hide rfl⟩
      have hSY : Hid (S < 10000 * Y) := hide (by have := hR.out; have := hS.out; omega)
      have hRM : R < 10000 ^ M := Nat.lt_trans hR.out hYM.out
      have hlR : Hid ((cn 10000 R).length + 1 ≤ 17592186044416) := hide (by have := cn_length_le B_two hRM; omega)
      have hSM : Hid (S < 10000 ^ (M + 1)) := hide (by rw [Nat.pow_succ]; have := hS.out; omega)
      have eS : Hid (vl 10000 (x :: cn 10000 R) = S) := hide (by rw [hS.out]; simp only [vl]; rw [vl_cn B_two])
      have dS : Hid (Dg 10000 (x :: cn 10000 R)) := hide (Dg.cons bx (dg_cn B_two R))
      -- what stays behind the cut of the rest
      have Hown := hide hown
      have Hbel := hide hbel
      have Hrow := hide hrow
      have HRM := hide hRM
      have Hx := hide hx
      have trimS : Hid (∀ v' w', Own .i64 3 w' wo.heap.size v' (x :: cn 10000 R) → Calls Tryz.prog 62 #[v'] w' (INew w' S (M + 1))) := hide (by
        intro v' w' ho
        obtain ⟨A1, c1, rfl, h1, h2, h3, _⟩ := ho.form
        have hl := hlR.out
        have h := rtrim_any A1 _ c1 _ w' h3 (by simp only [List.length_cons]; have := cn_length_le B_two hRM; omega)
        refine h.mono fun e w2 h => INew.of ?_ hSM.out
        rw [← cn_vl B_two dS.out, eS.out] at h
        exact h)
      clear hown hbel hrow hRM hx hx2 hR hbb bx
      go_wp2_with (first
        | (at_builtin; go_must (refine wpList_cons rfl (.tmp 27) (.tmp 28) 49 rfl Tryz.underlying49 hi hz0 hz1 hz2 rfl wo x _ _ (cn 10000 R) Hown.out rfl rfl hlR.out (by decide) ?_); intro v0 w0 ho hb0)
        | (go_at_call 62; refine (trimS.out _ _ ho).mono ?_; rintro e w1 ⟨v1, rfl, ho1, hc1, hb1⟩))
      have Ho1 := hide (ho1.mono hb0.size)
      have Hc1 := hide hc1
      have Hb1 := hide (hb0.trans (hb1.mono hb0.size))
      clear ho hb0 ho1 hc1 hb1 trimS eS dS hlR
      go_wp2_with fail
      go_loopw [9, 10] (fun lv hv wx => DmIn w1 Y S lv hv wx) (fun lv hv _ => (intOf hv - intOf lv).toNat)
      case atStart => exact ⟨0, 10000, by omega, by omega, rfl, rfl, hide (by simp), hSY, Below.refl _ _⟩
      case round =>
        obtain ⟨lo, hi', hlh, hhb, rfl, rfl, hlo, hhi, hb2⟩ := hrel
        have Hb2 := hide hb2
        have hb12 : Hid (Below w.heap.size w wr) := hide (Hbel.out.trans ((Hb1.out.trans (hb2.mono Hb1.out.size)).mono Hbel.out.size))
        by_cases hgap : lo + 1 < hi'
        · obtain ⟨mid, hmid⟩ : ∃ mid, (lo + hi') / 2 = mid := ⟨_, rfl⟩
          have em : Int.tdiv ((lo : Int) + (hi' : Int)) 2 = (mid : Int) := by rw [← hmid]; exact (Int.ofNat_tdiv (lo + hi') 2).symm
          have hm1 : lo < mid := by omega
          have hm2 : mid < hi' := by omega
          have gap : (1 : Int) < (hi' : Int) - (lo : Int) := by omega
          have mulc : Hid (Calls Tryz.prog 66 #[bv, .slice (some ⟨wr.heap.size, 0, none⟩) 1 1] (wr.alloc (.cells #[.int .i64 (mid : Int)] 3)) (fun e w' => ∃ r, e = .returned r ∧ Ic w' r (Y * mid) (M + 1) ∧ Ic w' v1 S (M + 1) ∧ Below w1.heap.size w1 w')) := hide (by
            have ha : Below wr.heap.size wr (wr.alloc (.cells #[.int .i64 (mid : Int)] 3)) := (Below.refl _ _).alloc (Nat.le_refl _) _
            have h1 := HB.out.step (hb12.out.trans (ha.mono hb12.out.size))
            have h2 := iw_one wr 3 (x := mid) (by omega)
            refine (imul h1 h2 (by omega) (by omega)).mono fun e w' ⟨r, he, _, hc, hb⟩ => ⟨r, he, hc, ?_, ?_⟩
            · exact ((Hc1.out.step hb2).step ha).step hb
            · exact (hb2.trans (ha.mono hb2.size)).trans (hb.mono (Nat.le_trans hb2.size ha.size)))
          obtain ⟨s, hs⟩ : ∃ s, Hid (cmpN (Y * mid) S = s) := ⟨_, hide rfl⟩
          have cmpc : Hid (∀ r w', Ic w' r (Y * mid) (M + 1) → Ic w' v1 S (M + 1) → Calls Tryz.prog 92 #[r, v1] w' fun e w2 => e = .returned (.int .i64 s) ∧ w' = w2) := hide (by
            intro r w' h1 h2
            rw [← hs.out]
            exact icmp h1.iw h2.iw (by omega) (by omega))
          have hcase : (decide (s ≤ 0) = true ∧ Hid (mid * Y ≤ S)) ∨ (decide (s ≤ 0) = false ∧ Hid (S < mid * Y)) := by
            have h0 := hs.out
            rcases Nat.lt_trichotomy (Y * mid) S with h | h | h
            · rw [cmpN_lt h] at h0; exact .inl ⟨decide_eq_true (by omega), hide (by rw [Nat.mul_comm]; omega)⟩
            · rw [h, cmpN_eq] at h0; exact .inl ⟨decide_eq_true (by omega), hide (by rw [Nat.mul_comm]; omega)⟩
            · rw [cmpN_gt h] at h0; exact .inr ⟨decide_eq_false (by omega), hide (by rw [Nat.mul_comm]; omega)⟩
          clear hs hmid hb2
          rcases hcase with ⟨hd, hle⟩ | ⟨hd, hle⟩
          all_goals
            go_wp2_with (first
              | (go_at_call 66; refine mulc.out.mono ?_; rintro e w2 ⟨r, rfl, hcr, hc1, hb3⟩)
              | (go_at_call 92; refine (cmpc.out _ _ hcr hc1).mono ?_; rintro e w3 ⟨rfl, rfl⟩))
            go_roundw
            case rel => first | exact ⟨mid, hi', hm2, hhb, rfl, rfl, hle, hhi, hb3⟩ | exact ⟨lo, mid, hm1, by omega, rfl, rfl, hlo, hle, hb3⟩
            case measure => simp [intOf]; omega
        · obtain rfl : hi' = lo + 1 := by omega
          have gap : decide ((1 : Int) < (lo : Int) + 1 - (lo : Int)) = false := decide_eq_false (by omega)
          have hlo4 : lo < 10000 := by omega
          have hrow2 := Hrow.out.below (Hb1.out.trans (hb2.mono Hb1.out.size)) Hrow.out.lt
          have hjl : j < (List.replicate (j + 1) 0 ++ qs).length := by simp; omega
          obtain ⟨z, hz⟩ : ∃ z : Nat, wr.cell? ⟨w.heap.size, j, none⟩ = some (.int .i64 (z : Int)) := ⟨_, by have h := hrow2.cell hjl; rw [Nat.zero_add] at h; exact h⟩
          have hfr := hrow2.frozen j
          have hst := hide (hrow2.set_ hjl lo)
          have hwr : w.heap.size < wo.heap.size := Hrow.out.lt
          obtain ⟨wy, hwy⟩ : ∃ wy, Hid (wr.setCell ⟨w.heap.size, j, none⟩ (.int .i64 (lo : Int)) = wy) := ⟨_, hide rfl⟩
          have hsy : Hid (wy.heap.size = wr.heap.size) := hide (by rw [← hwy.out]; simp [World.setCell])
          have hby : Hid (Below w.heap.size w wy) := hide (by rw [← hwy.out]; exact hb12.out.setCell (Nat.le_refl _) _)
          have ho1y : Hid (Own .i64 3 wy wo.heap.size v1 (cn 10000 S)) := hide (by
            have h := Own.setFar (Ho1.out.below hb2 (Nat.le_refl _)) (p := ⟨w.heap.size, j, none⟩) hwr (.int .i64 (lo : Int))
            rw [hwy.out] at h
            exact h)
          have hrowy : Hid (Row .i64 3 wy w.heap.size 0 (madeCells #[.int .i64 0] n) (List.replicate j 0 ++ lo :: qs)) := hide (by
            have h := hst.out
            rw [Nat.zero_add, hwy.out, fill_back] at h
            exact h)
          have hc1y := Ic.of ho1y.out hSM.out
          have mulc : Hid (Calls Tryz.prog 66 #[bv, .slice (some ⟨wr.heap.size, 0, none⟩) 1 1] ((wr.setCell ⟨w.heap.size, j, none⟩ (.int .i64 (lo : Int))).alloc (.cells #[.int .i64 (lo : Int)] 3)) (fun e w' => ∃ r, e = .returned r ∧ Ic w' r (Y * lo) (M + 1) ∧ Below wy.heap.size wy w')) := hide (by
            rw [← hsy.out, hwy.out]
            have ha : Below wy.heap.size wy (wy.alloc (.cells #[.int .i64 (lo : Int)] 3)) := (Below.refl _ _).alloc (Nat.le_refl _) _
            have h1 := HB.out.step (hby.out.trans (ha.mono hby.out.size))
            have h2 := iw_one wy 3 (x := lo) hlo4
            exact (imul h1 h2 (by omega) (by omega)).mono fun e w' ⟨r, he, _, hc, hb⟩ => ⟨r, he, hc, ha.trans (hb.mono ha.size)⟩)
          have e1 := rdiv_step (lo := lo) ex.out hv.out hS.out
          have subc : Hid (∀ r w', Ic w' r (Y * lo) (M + 1) → Below wy.heap.size wy w' → Calls Tryz.prog 93 #[v1, r] w' fun e w2 => ∃ v, e = .returned v ∧ DmOut 3 w n Y M xs v (.int .i64 ((j : Int) - 1)) w2) := hide (by
            intro r w' h1 h2
            have hle : Y * lo ≤ S := by rw [Nat.mul_comm]; exact hlo.out
            refine (isub (hc1y.step h2).iw h1.iw (by omega) (by omega) hle).mono fun e w2 ⟨v, he, ho, _, hb⟩ => ⟨v, he, j, S - Y * lo, lo :: qs, by omega, rfl, ?_, Dg.cons hlo4 dq, ?_, ?_, ?_, ?_, ?_⟩
            · exact hide (by have := hql.out; simp only [List.length_cons]; omega)
            · refine hide ?_
              simp only [vl]
              rw [Nat.mul_comm lo Y] at e1
              omega
            · have h9 := hhi.out
              rw [Nat.add_mul, Nat.one_mul, Nat.mul_comm] at h9
              exact hide (by omega)
            · exact ho.mono (by have := h2.size; have := hsy.out; have := hb2.size; have := Hb1.out.size; omega)
            · have hw : w.heap.size < wy.heap.size := by have := hsy.out; have := hb2.size; have := Hb1.out.size; omega
              exact ((hrowy.out.below h2 hw).below hb (Nat.lt_of_lt_of_le hw h2.size))
            · exact (hby.out.trans (h2.mono hby.out.size)).trans (hb.mono (Nat.le_trans hby.out.size h2.size)))
          clear hrow2 hst hc1y e1 hb2 hlo hhi hSY ex hS hv hql dq hjl
          go_wp2_with (first
            | (go_at_call 66; refine mulc.out.mono ?_; rintro e w2 ⟨r, rfl, hcr, hb3⟩)
            | (go_at_call 93; refine (subc.out _ _ hcr hb3).mono ?_; rintro e w3 ⟨v, rfl, fin⟩))
          go_roundw
          case rel => exact fin
          case measure => simp [intOf]
theorem idivmod {w : World} {u v : Value} {x y L M : Nat} (hu : Ic w u x L) (hv : Iw w v y M) (hy : 0 < y) (hL : L ≤ 100000000000) (hM : M ≤ 100000000000) :
    Calls Tryz.prog 63 #[u, v] w (fun e w' => ∃ q r, e = .returned (.tuple #[q, r]) ∧ Own .i64 3 w' w.heap.size q (cn 10000 (x / y)) ∧ Own .i64 3 w' w.heap.size r (cn 10000 (x % y)) ∧
      Ic w' q (x / y) L ∧ Ic w' r (x % y) M ∧ Below w.heap.size w w') := by
  have lx := hu.iw.lt
  have ly := hv.lt
  obtain ⟨A, c, rfl, h1, h2⟩ := hu
  have h := rdivmod_any A _ c _ v y M w h1 hv (dg_cn B_two x) hy (by omega) hM
  rw [vl_cn B_two] at h
  refine h.mono fun e w' ⟨q, r, he, hq, hr, hb⟩ => ⟨q, r, he, hq, hr, Ic.of hq (Nat.lt_of_le_of_lt (Nat.div_le_self _ _) lx), Ic.of hr (Nat.lt_trans (Nat.mod_lt _ hy) ly), hb⟩
theorem half_new (w : World) : Calls Tryz.prog 61 #[.int .i64 4294967296] w (INew w 4294967296 3) := ismall (x := 4294967296) (L := 3) w (by omega) (by decide +kernel)
theorem own_apart {k k' : IntKind} {e e' : TypeId} {w w' : World} {B B' : Nat} {v v' : Value} {xs ys : List Nat} (h1 : Own k e w B v xs) (h2 : Own k' e' w' B' v' ys) (hB : w.heap.size ≤ B') :
    v'.ownBlock = none ∨ v'.ownBlock ≠ v.ownBlock := by
  rcases h2 with ⟨rfl, _⟩ | ⟨g', cap', C', rfl, hB', hr', _⟩
  · left; rfl
  · right
    rcases h1 with ⟨rfl, _⟩ | ⟨g, cap, C, rfl, hB1, hr, _⟩
    · simp [Value.ownBlock]
    · have := hr.lt
      simp [Value.ownBlock]; omega
def ToRel (tu ti : TypeId) (w : World) (X L : Nat) (half ov xv : Value) (wr : World) : Prop :=
  ∃ (ws : List Nat) (Z : Nat), Own .u64 tu wr w.heap.size ov ws ∧ Hid (cn Q X = ws ++ cn Q Z) ∧ Own .i64 ti wr w.heap.size xv (cn 10000 Z) ∧ Hid (Z ≤ X) ∧
    Own .i64 ti wr w.heap.size half (cn 10000 4294967296) ∧ Hid (half.ownBlock = none ∨ half.ownBlock ≠ ov.ownBlock) ∧ Below w.heap.size w wr
def lenV : Value → Nat
  | .slice _ n _ => n
  | _ => 0
theorem cn_len_le {B a b : Nat} (hB : 2 ≤ B) (h : a ≤ b) : (cn B a).length ≤ (cn B b).length :=
  cn_length_le hB (Nat.lt_of_le_of_lt h (lt_of_cn_length hB (Nat.le_refl _)))
theorem cn_len_less {Z : Nat} (hZ : Z ≠ 0) : (cn 10000 (Z / 4294967296 / 4294967296)).length < (cn 10000 Z).length := by
  rw [cn_pos B_two hZ, List.length_cons]
  have := cn_len_le B_two (show Z / 4294967296 / 4294967296 ≤ Z / 10000 by omega)
  omega
theorem word_parts {Z : Nat} (hZ : Z ≠ 0) : cn Q Z = (Z / 4294967296 % 4294967296 * 4294967296 + Z % 4294967296) :: cn Q (Z / 4294967296 / 4294967296) := by
  have hQ : Q = 4294967296 * 4294967296 := by decide +kernel
  rw [cn_pos Q_two hZ, Nat.div_div_eq_div_mul, ← hQ]
  congr 1
  rw [hQ]
  omega
set_option maxHeartbeats 4000000 in
theorem rto_any {w : World} {u : Value} {X L : Nat} (hu : Iw w u X L) (hL : L ≤ 100000000000) :
    Calls Tryz.prog 44 #[u] w (OwnRet .u64 62 w (cn Q X)) := by
  obtain ⟨i0, hi, hz0, hz1, hz2⟩ := info_parts info_u64
  have hXL := hu.lt
  have hlen : Hid ((cn Q X).length ≤ L) := hide (cn_length_le Q_two (Nat.lt_of_lt_of_le hXL (Nat.pow_le_pow_left (by decide +kernel) L)))
  have HXL := hide hXL
  have U := hide hu
  clear hu hXL
  go_enter Tryz.func44, Tryz.ntmps44
  go_wp2_with fail
  refine (half_new _).mono ?_
  rintro e w1 ⟨half, rfl, oh, ch, b1⟩
  have a0 : Below w.heap.size w (w.alloc (.cells #[] 62)) := (Below.refl _ _).alloc (Nat.le_refl _) _
  have B := hide (a0.trans (b1.mono a0.size))
  have U := hide (U.out.step B.out)
  have OV := hide ((own_empty .u64 62 w w.heap.size (Nat.le_refl _)).below b1 (Nat.le_refl _))
  have AP := hide (own_apart (own_empty .u64 62 w w.heap.size (Nat.le_refl _)) oh (Nat.le_refl _))
  have OH := hide (oh.mono a0.size)
  clear oh ch b1 a0
  go_wp2_with fail
  refine (itrim U.out (by omega)).mono ?_
  rintro e w2 ⟨x0, rfl, ox, cx, b2⟩
  have start : ToRel 62 3 w X L half (.slice (some ⟨w.heap.size, 0, none⟩) 0 0) x0 w2 :=
    ⟨[], X, OV.out.below b2 (Nat.le_refl _), hide rfl, ox.mono B.out.size, hide (Nat.le_refl _), OH.out.below b2 (Nat.le_refl _), AP, B.out.trans (b2.mono B.out.size)⟩
  clear U B OV AP OH ox cx b2
  go_wp2_with fail
  go_loopw [3, 5] (fun ov xv wr => ToRel 62 3 w X L half ov xv wr) (fun _ xv _ => lenV xv)
  case atStart => exact start
  case round => 
    clear start
    obtain ⟨ws, Z, ow, hcn, ox, hZX, oh, hap, hbel⟩ := hrel
    have hZL : Hid (Z < 10000 ^ L) := hide (Nat.lt_of_le_of_lt hZX.out HXL.out)
    have cx := Ic.of ox hZL.out
    by_cases h0 : Z = 0
    · subst h0
      rw [cn_zero, List.append_nil] at hcn
      obtain ⟨A, c, hxv, _, _⟩ := cx
      rw [cn_zero, List.length_nil] at hxv
      subst hxv
      have e := hcn.out
      rw [← e] at ow
      clear hcn e ox hZX oh hap hZL HXL hlen
      go_wp2_with fail
      go_ret
      exact ⟨_, rfl, ow, hbel⟩
    · obtain ⟨A, c, hxv, _, _⟩ := id cx
      obtain ⟨lz, hlz⟩ : ∃ lz, Hid ((cn 10000 Z).length = lz) := ⟨_, hide rfl⟩
      have hpos : 0 < lz := by
        rw [← hlz.out]
        exact List.length_pos_iff.2 (fun h => h0 ((cn_eq_nil B_two).1 h))
      rw [hlz.out] at hxv
      have hmeas := hide (cn_len_less h0)
      have hwp := hide (word_parts h0)
      have dm1 := hide (idivmod (w := wr) (y := 4294967296) (M := 3) cx (Ic.of oh (by decide +kernel)).iw (by omega) (by omega) (by omega))
      rw [hxv] at dm1 ox
      subst hxv
      obtain ⟨q, hq⟩ : ∃ q, Hid (Z / 4294967296 = q) := ⟨_, hide rfl⟩
      obtain ⟨p, hp⟩ : ∃ p, Hid (q / 4294967296 = p) := ⟨_, hide rfl⟩
      obtain ⟨hh, hhh⟩ : ∃ hh, Hid (q % 4294967296 = hh) := ⟨_, hide rfl⟩
      obtain ⟨ll, hll⟩ : ∃ ll, Hid (Z % 4294967296 = ll) := ⟨_, hide rfl⟩
      have bh : hh < 4294967296 := by rw [← hhh.out]; exact Nat.mod_lt _ (by omega)
      have bl : ll < 4294967296 := by rw [← hll.out]; exact Nat.mod_lt _ (by omega)
      rw [hq.out, hll.out] at dm1
      rw [hq.out, hp.out, hhh.out, hll.out] at hwp
      rw [hq.out, hp.out] at hmeas
      obtain ⟨word, hw⟩ : ∃ word, hh * 4294967296 + ll = word := ⟨_, rfl⟩
      rw [hw] at hwp
      have ew : (hh : Int) * 4294967296 + (ll : Int) = (word : Int) := by omega
      have wQ : (word : Int) ≤ 18446744073709551615 := by omega
      have hcn2 : Hid (cn Q X = (ws ++ [word]) ++ cn Q p) := hide (by rw [hcn.out, hwp.out, List.append_assoc]; rfl)
      have Hl : Hid (ws.length + 1 ≤ 17592186044416) := hide (by
        have h1 := congrArg List.length hcn2.out
        simp only [List.length_append, List.length_cons, List.length_nil] at h1
        have h2 := hlen.out
        omega)
      have hpX : Hid (p ≤ X) := hide (by
        have h1 := hZX.out
        have h2 := hq.out
        have h3 := hp.out
        omega)
      have OW := hide ow
      have OH := hide oh
      have BEL := hide hbel
      clear ow oh hbel ox cx hcn hwp hll h0 hZX hZL hlen HXL hw
      go_wp2_with fail
      refine dm1.out.mono ?_
      rintro e w1 ⟨qv, lowv, rfl, oq, olow, cq, clow, b1⟩
      have OW1 := hide (OW.out.below b1 (Nat.le_refl _))
      have OH1 := hide (OH.out.below b1 (Nat.le_refl _))
      have BEL1 := hide (BEL.out.trans (b1.mono BEL.out.size))
      have CL := hide clow
      have CQ := hide cq
      have SZ := hide b1.size
      clear dm1 OW OH oq olow cq clow b1
      have dm2 := hide (idivmod (w := w1) (y := 4294967296) (M := 3) CQ.out (Ic.of OH1.out (by decide +kernel)).iw (by omega) (by omega) (by omega))
      rw [hp.out, hhh.out] at dm2
      go_wp2_with fail
      refine dm2.out.mono ?_
      rintro e w2 ⟨pv, highv, rfl, op, ohigh, cp, chigh, b2⟩
      have OW2 := hide (OW1.out.below b2 (Nat.le_refl _))
      have OH2 := hide (OH1.out.below b2 (Nat.le_refl _))
      have BEL2 := hide (BEL1.out.trans (b2.mono BEL1.out.size))
      have CL2 := hide (CL.out.step b2)
      have CH2 := hide chigh
      have OP := hide op
      have APP := hide (own_apart OW1.out op (Nat.le_refl _))
      have Hsz := hide BEL2.out.size
      have hml : Hid (lenV pv < lz) := hide (by
        obtain ⟨A', c', hpv, _, _⟩ := cp
        rw [hpv, ← hlz.out]
        exact hmeas.out)
      have hpb : Hid (∀ g, half.ownBlock = some g → g < w2.heap.size) := hide (by
        intro g hg
        rcases OH2.out with ⟨rfl, _⟩ | ⟨g', cap', C', rfl, _, hr', _⟩
        · simp [Value.ownBlock] at hg
        · simp [Value.ownBlock] at hg
          have := hr'.lt
          omega)
      have fin : ∀ m v' w', Own .u64 62 w' w.heap.size v' (ws ++ [word]) → ((w2.drewN m).grownBy w' u3.ownBlock ∧ (v'.ownBlock = u3.ownBlock ∨ v'.ownBlock = some ((w2.drewN m).heap.size + 1))) → ToRel 62 3 w X L half v' pv w' := by
        intro m v' w' ho hg
        have OW3 : Own .u64 62 (w2.drewN m) w.heap.size u3 ws := OW2.out
        have OP3 : Own .i64 3 (w2.drewN m) w1.heap.size pv (cn 10000 p) := OP.out
        have OH3 : Own .i64 3 (w2.drewN m) w.heap.size half (cn 10000 4294967296) := OH2.out
        refine ⟨ws ++ [word], p, ho, hcn2, (OP3.grown hg.1 APP.out).mono BEL1.out.size, hpX, OH3.grown hg.1 hap.out, hide ?_, push_below (below_drewN BEL2.out m) OW3 hg.1 Hsz.out⟩
        rcases hg.2 with h | h
        · rw [h]; exact hap.out
        · rw [h]
          cases hb : half.ownBlock with
          | none => left; rfl
          | some g =>
            right
            have h3 := hpb.out g hb
            intro h4
            injection h4 with h4
            simp [World.drewN] at h4
            omega
      have Fin := hide fin
      clear dm2 OW1 OH1 BEL1 BEL OP op ohigh cp chigh b2 CL CQ fin APP hpb hap hcn2 hpX hmeas hp hq hhh OH2
      have val1 := hide (ivalue CH2.out.iw (by omega) (by omega))
      have val2 : Hid (∀ m, Calls Tryz.prog 64 #[lowv] (w2.drewN m) (QuietRet (w2.drewN m) (.int .i64 (ll : Int)))) := hide (fun m => by
        have h : Ic (w2.drewN m) lowv ll 3 := CL2.out
        exact ivalue h.iw (by omega) (by omega))
      clear CH2 CL2
      go_wp2_with fail
      refine val1.out.mono ?_
      rintro e w3 ⟨rfl, m1, rfl⟩
      go_wp2_with fail
      refine (val2.out m1).mono ?_
      rintro e w4 ⟨rfl, m2, rfl⟩
      go_wp2_with (at_builtin; go_must (refine wpList_push rfl (.tmp 29) (.tmp 38) 32 rfl Tryz.underlying32 hi hz0 hz1 hz2 rfl (w2.drewN (m1 + m2)) w.heap.size _ ws word OW2.out rfl rfl Hl.out (by decide) Hsz.out ?_); intro v' w' ho hg; have fin2 := Fin.out _ v' w' ho hg; clear ho hg)
      go_roundw
      case rel => exact fin2
      case measure => exact hml.out
theorem cell_keep {W w' : World} {p : Addr} {v : Value} (hc : W.cell? p = some v) (hb : Below W.heap.size W w') : w'.cell? p = some v := (hb.cell (World.block_lt_of_cell? _ _ hc)).trans hc
theorem below_of_drew {B : Nat} {a w : World} (h : Below B a.drew w) : Below B a w := ⟨h.os, h.tape, h.output, h.size, h.block⟩
theorem of_mul {W : World} {ov half : Value} {P L : Nat} {p : Addr} {x : Value} (h1 : Ic W ov P L) (h2 : Ic W half 4294967296 3) (hc : W.cell? p = some x) (hL : L ≤ 400000000000) :
    Calls Tryz.prog 66 #[ov, half] W fun e w' => ∃ r, e = .returned r ∧ w'.cell? p = some x ∧ Ic w' r (P * 4294967296) (L + 3) ∧ Ic w' half 4294967296 3 ∧ Below W.heap.size W w' :=
  (imul h1.iw h2.iw hL (by omega)).mono fun e w' ⟨r, he, _, hi, hb⟩ => ⟨r, he, cell_keep hc hb, hi, h2.step hb, hb⟩
theorem of_small {W : World} {rv half : Value} {d P L : Nat} {p : Addr} {x : Value} (h1 : Ic W rv P L) (h2 : Ic W half 4294967296 3) (hc : W.cell? p = some x) (hd : d < 4294967296) :
    Calls Tryz.prog 61 #[.int .i64 (d : Int)] W fun e w' => ∃ r, e = .returned r ∧ w'.cell? p = some x ∧ Ic w' r d 3 ∧ Ic w' rv P L ∧ Ic w' half 4294967296 3 ∧ Below W.heap.size W w' :=
  (ismall W (by omega) (Nat.lt_trans hd (by decide +kernel))).mono fun e w' ⟨r, he, _, hi, hb⟩ => ⟨r, he, cell_keep hc hb, hi, h1.step hb, h2.step hb, hb⟩
theorem of_add {W : World} {rv sv half : Value} {d P L : Nat} {p : Addr} {x : Value} (h1 : Ic W rv P L) (h3 : Ic W sv d 3) (h2 : Ic W half 4294967296 3) (hc : W.cell? p = some x) (hL : 3 ≤ L) (hL2 : L ≤ 800000000000) :
    Calls Tryz.prog 65 #[rv, sv] W fun e w' => ∃ r, e = .returned r ∧ w'.cell? p = some x ∧ Own .i64 3 w' W.heap.size r (cn 10000 (P + d)) ∧ Ic w' r (P + d) (L + 1) ∧ Ic w' half 4294967296 3 ∧ Below W.heap.size W w' :=
  (iadd (K := L) h1.iw h3.iw hL2 (by omega) hL).mono fun e w' ⟨r, he, ho, hi, hb⟩ => ⟨r, he, cell_keep hc hb, ho, hi, h2.step hb, hb⟩
def OfRel (t : TypeId) (w : World) (n : Nat) (xs : List Nat) (half ov iv : Value) (wr : World) : Prop :=
  ∃ k : Nat, k ≤ n ∧ iv = .int .i64 ((k : Int) - 1) ∧ Own .i64 t wr w.heap.size ov (cn 10000 (vl Q (xs.drop k))) ∧ Ic wr half 4294967296 3 ∧ Below w.heap.size w wr
theorem len_words {n k : Nat} {xs : List Nat} (hx : xs.length = n) (dx : Dg Q xs) (hk : k ≤ n) : vl Q (xs.drop k) < 10000 ^ (5 * (n - k)) := by
  have h := vl_lt (dx.drop k)
  rw [List.length_drop, hx] at h
  refine Nat.lt_of_lt_of_le h ?_
  rw [Nat.pow_mul]
  exact Nat.pow_le_pow_left (by decide +kernel) _
theorem of_word {P x hi lo : Nat} (h1 : x / 4294967296 = hi) (h2 : x % 4294967296 = lo) : x + Q * P = (P * 4294967296 + hi) * 4294967296 + lo := by
  have hQ : Q = 4294967296 * 4294967296 := by decide +kernel
  rw [hQ, Nat.add_mul, Nat.mul_assoc P, Nat.mul_comm P]
  omega
set_option maxHeartbeats 4000000 in
theorem rof_any (A : Option Addr) (n c : Nat) (xs : List Nat) (w : World) (hx : Rd .u64 w w.heap.size A n xs) (dx : Dg Q xs) (hn : n ≤ 1000000000) :
    Calls Tryz.prog 45 #[.slice A n c] w (OwnRet .i64 3 w (cn 10000 (vl Q xs))) := by
  have Hx := hide hx
  have Dx := hide dx
  have e0 : Hid (vl Q (xs.drop n) = 0) := hide (by rw [List.drop_eq_nil_of_le (by have := hx.1; omega)]; rfl)
  clear hx dx
  go_enter Tryz.func45, Tryz.ntmps45
  go_wp2_with fail
  refine (half_new _).mono ?_
  rintro e w1 ⟨half, rfl, oh, ch, b1⟩
  have a0 : Below w.heap.size w (w.alloc (.cells #[] 3)) := (Below.refl _ _).alloc (Nat.le_refl _) _
  have start : OfRel 3 w n xs half (.slice (some ⟨w.heap.size, 0, none⟩) 0 0) (.int .i64 ((n : Int) - 1)) w1 :=
    ⟨n, Nat.le_refl _, rfl, by rw [e0.out, cn_zero]; exact (own_empty .i64 3 w w.heap.size (Nat.le_refl _)).below b1 (Nat.le_refl _), ch, a0.trans (b1.mono a0.size)⟩
  clear oh ch b1 a0 e0
  go_wp2_with fail
  go_loopw [3, 5] (fun ov iv wr => OfRel 3 w n xs half ov iv wr) (fun _ iv _ => (intOf iv + 1).toNat)
  case atStart => exact start
  case round =>
    clear start
    obtain ⟨k, hk, rfl, hown, hhalf, hbel⟩ := hrel
    rcases Nat.eq_zero_or_pos k with h0 | h0
    · subst h0
      rw [List.drop_zero] at hown
      clear Hx Dx hhalf
      go_wp2_with fail
      go_ret
      exact ⟨_, rfl, hown, hbel⟩
    · obtain ⟨j, rfl⟩ : ∃ j, k = j + 1 := ⟨k - 1, by omega⟩
      have ej : ((j + 1 : Nat) : Int) - 1 = (j : Int) := by omega
      rw [ej]
      obtain ⟨x, ex⟩ : ∃ x, Hid (xs.getD j 0 = x) := ⟨_, hide rfl⟩
      obtain ⟨P, hP⟩ : ∃ P, Hid (vl Q (xs.drop (j + 1)) = P) := ⟨_, hide rfl⟩
      have hx2 := Hx.out.below hbel (Nat.le_refl _)
      obtain ⟨b, o, rfl, hbb, hcx⟩ := hx2.at_ (show j < n by omega)
      rw [ex.out] at hcx
      have bx : x < Q := by rw [← ex.out]; exact Dx.out.getD Q_pos j
      obtain ⟨hi, hhi⟩ : ∃ hi, x / 4294967296 = hi := ⟨_, rfl⟩
      obtain ⟨lo, hlo⟩ : ∃ lo, x % 4294967296 = lo := ⟨_, rfl⟩
      have bQ : x < 18446744073709551616 := by unfold Q at bx; exact bx
      have bh : hi < 4294967296 := by omega
      have bl : lo < 4294967296 := by omega
      have ehi : (x : Int) / 4294967296 = (hi : Int) := by omega
      have elo : bits .and .u64 (x : Int) 4294967295 = (lo : Int) := by rw [← hlo]; exact Mul64.maskN x bQ
      have ewh : IntKind.i64.wrap (hi : Int) = (hi : Int) := IntWalk.i64_in _ (by omega)
      have ewl : IntKind.i64.wrap (lo : Int) = (lo : Int) := IntWalk.i64_in _ (by omega)
      have e2 : Hid (vl Q (xs.drop j) = (P * 4294967296 + hi) * 4294967296 + lo) := hide (by rw [vl_drop Q xs j, ex.out, hP.out]; exact of_word hhi hlo)
      have i1 : (j : Int) < (n : Int) := by omega
      have hPL := len_words Hx.out.1 Dx.out hk
      rw [hP.out] at hPL hown
      obtain ⟨L, hL⟩ : ∃ L, 5 * (n - (j + 1)) = L := ⟨_, rfl⟩
      have bL : L ≤ 5000000000 := by omega
      rw [hL] at hPL
      have IOh := hide (Ic.of hown hPL)
      have IH := hide hhalf
      have BEL := hide hbel
      clear hown hhalf hbel hx2 hPL hhi hlo bQ bx hL hP hbb
      go_wp2_with fail
      go_region_held3 (fun w' => w'.cell? ⟨b, o + j, none⟩ = some (.int .u64 (x : Int))) (first | exact hcx | assumption)
        (first
          | (go_at_call 66; refine (of_mul (by exact IOh.out) (by exact IH.out) (by exact hcx) (by omega)).mono ?_; rintro e w3 ⟨r, rfl, hc3, ir3, ih3, hb3⟩)
          | (go_at_call 61; refine (of_small (by exact ir3) (by exact ih3) (by exact hc3) bh).mono ?_; rintro e w4 ⟨s, rfl, hc4, is4, ir4, ih4, hb4⟩)
          | (go_at_call 65; refine (of_add (by exact ir4) (by exact is4) (by exact ih4) (by exact hc4) (by omega) (by omega)).mono ?_; rintro e w5 ⟨v5, rfl, hc5, ho5, io5, ih5, hb5⟩))
      have OB5 := hide hb5
      have B5 : Hid (Below wr.heap.size wr w5) := hide (below_of_drew ((hb3.trans (hb4.mono hb3.size)).trans (hb5.mono (Nat.le_trans hb3.size hb4.size))))
      have IO5 := hide io5
      have IH5 := hide ih5
      clear hb3 hb4 hb5 hc3 hc4 ir3 ih3 is4 ir4 ih4 ho5 io5 ih5 IOh IH
      go_wp2_with fail
      go_region_held3 (fun w' => w'.cell? ⟨b, o + j, none⟩ = some (.int .u64 (x : Int))) (first | exact hc5 | assumption)
        (first
          | (go_at_call 66; refine (of_mul (by exact IO5.out) (by exact IH5.out) (by exact hc5) (by omega)).mono ?_; rintro e w3 ⟨r, rfl, hc3, ir3, ih3, hb3⟩)
          | (go_at_call 61; refine (of_small (by exact ir3) (by exact ih3) (by exact hc3) bl).mono ?_; rintro e w4 ⟨s, rfl, hc4, is4, ir4, ih4, hb4⟩)
          | (go_at_call 65; refine (of_add (by exact ir4) (by exact is4) (by exact ih4) (by exact hc4) (by omega) (by omega)).mono ?_; rintro e w6 ⟨v6, rfl, hc6, ho6, io6, ih6, hb6⟩))
      have B6 : Below wr.heap.size wr w6 := B5.out.trans ((below_of_drew ((hb3.trans (hb4.mono hb3.size)).trans (hb6.mono (Nat.le_trans hb3.size hb4.size)))).mono B5.out.size)
      have fin : OfRel 3 w n xs half v6 (.int .i64 ((j : Int) - 1)) w6 := by
        refine ⟨j, by omega, rfl, ?_, ih6, BEL.out.trans (B6.mono BEL.out.size)⟩
        rw [e2.out]
        refine ho6.mono ?_
        have h1 := BEL.out.size
        have h2 := B5.out.size
        have h3 := hb3.size
        have h4 := hb4.size
        first | omega | (simp at h3; omega)
      clear hb3 hb4 hc3 hc4 ir3 ih3 is4 ir4 ih4 B6 hb6 ho6 io6 ih6 hc6 IO5 IH5 B5 OB5 BEL e2
      go_wp2_with fail
      go_roundw
      case rel => exact fin
      case measure => simp [intOf]
def RgRel (t : TypeId) (w : World) (G L : Nat) (gk : Nat) (xv yv : Value) (wr : World) : Prop :=
  ∃ X : Nat, Own .i64 t wr w.heap.size xv (cn 10000 X) ∧ Own .i64 t wr w.heap.size yv (cn 10000 gk) ∧ Hid (Nat.gcd X gk = G) ∧ Hid (X < 10000 ^ L) ∧ Hid (gk < 10000 ^ L) ∧ Below w.heap.size w wr
set_option maxHeartbeats 4000000 in
theorem igcd {w : World} {u v : Value} {x y L : Nat} (hu : Iw w u x L) (hv : Iw w v y L) (hL : L ≤ 100000000000) :
    Calls Tryz.prog 67 #[u, v] w (INew w (Nat.gcd x y) L) := by
  have hxL := hu.lt
  have hyL := hv.lt
  have hGL : Nat.gcd x y < 10000 ^ L := by
    rcases Nat.eq_zero_or_pos x with h | h
    · subst h; rw [Nat.gcd_zero_left]; exact hyL
    · exact Nat.lt_of_le_of_lt (Nat.gcd_le_left _ h) hxL
  obtain ⟨G, hG⟩ : ∃ G, Hid (Nat.gcd x y = G) := ⟨_, hide rfl⟩
  rw [hG.out] at hGL ⊢
  have HGL := hide hGL
  have HX := hide hxL
  have HY := hide hyL
  have V := hide hv
  have U := hide hu
  clear hu hv hxL hyL hGL
  go_enter Tryz.func67, Tryz.ntmps67
  go_wp2_with fail
  refine (itrim U.out (by omega)).mono ?_
  rintro e w1 ⟨xv, rfl, ox, -, b1⟩
  have V := hide (V.out.step b1)
  have B := hide b1
  have OX := hide ox
  clear ox b1 U
  go_wp2_with fail
  refine (itrim V.out (by omega)).mono ?_
  rintro e w2 ⟨yv, rfl, oy, -, b2⟩
  have start : RgRel 3 w G L y xv yv w2 :=
    ⟨x, OX.out.below b2 (Nat.le_refl _), oy.mono B.out.size, hG, HX, HY, B.out.trans (b2.mono B.out.size)⟩
  clear V B OX oy b2
  go_wp2_with fail
  go_loopg [5, 6] y (fun gk xv yv wr => RgRel 3 w G L gk xv yv wr)
  case atStart => exact start
  case round =>
    clear start
    obtain ⟨X, ox, oy, hg, hX, hY, hbel⟩ := hrel
    have cx := Ic.of ox hX.out
    have cy := Ic.of oy hY.out
    by_cases h0 : gk = 0
    · subst h0
      obtain ⟨A, c, hyv, _, _⟩ := cy
      rw [cn_zero, List.length_nil] at hyv
      subst hyv
      have e := hg.out
      rw [Nat.gcd_zero_right] at e
      rw [e] at ox
      have fin : INew w G L (.returned u5) wr := ⟨_, rfl, ox, Ic.of ox HGL.out, hbel⟩
      clear cx hg hX hY HX HY HGL hG oy ox
      go_wp2_with fail
      go_ret
      exact fin
    · obtain ⟨A, c, hyv, _, _⟩ := id cy
      have hpos : 0 < (cn 10000 gk).length := List.length_pos_iff.2 (fun h => h0 ((cn_eq_nil B_two).1 h))
      have dm := hide (idivmod cx cy.iw (Nat.pos_of_ne_zero h0) hL hL)
      have hlt : Hid (X % gk < gk) := hide (Nat.mod_lt _ (Nat.pos_of_ne_zero h0))
      have hg2 : Hid (Nat.gcd gk (X % gk) = G) := hide (by rw [← hg.out, Nat.gcd_comm X gk, Nat.gcd_comm gk (X % gk), ← Nat.gcd_rec gk X])
      have OY := hide oy
      have HB := hide hbel
      subst hyv
      generalize (cn 10000 gk).length = ly at *
      clear cx cy hg ox oy hbel
      go_wp2_with fail
      refine dm.out.mono ?_
      rintro e w3 ⟨q, r, rfl, -, orr, -, cr, b3⟩
      have fin : RgRel 3 w G L (X % gk) (.slice A ly c) r w3 :=
        ⟨gk, OY.out.below b3 (Nat.le_refl _), orr.mono HB.out.size, hg2, hY, hide (Nat.lt_trans hlt.out hY.out), HB.out.trans (b3.mono HB.out.size)⟩
      clear orr cr b3 OY HB dm hg2
      go_wp2_with fail
      go_roundg (X % gk)
      case rel => exact fin
      case measure => exact hlt.out
def Lw (w : World) (v : Value) (xs : List Nat) (L : Nat) : Prop :=
  ∃ A n c, v = .slice A n c ∧ Rd .u64 w w.heap.size A n xs ∧ Dg Q xs ∧ n ≤ c ∧ c ≤ maxLen ∧ n ≤ L
theorem Lw.step {w w' : World} {v : Value} {xs : List Nat} {L : Nat} (h : Lw w v xs L) (hb : Below w.heap.size w w') : Lw w' v xs L := by
  obtain ⟨A, n, c, e, h1, h2⟩ := h
  exact ⟨A, n, c, e, (h1.below hb (Nat.le_refl _)).more hb.size, h2⟩
theorem Lw.nw {w : World} {v : Value} {xs : List Nat} {L : Nat} (h : Lw w v xs L) : Nw w v (vl Q xs) L := by
  obtain ⟨A, n, c, e, h1, h2, h3, h4, h5⟩ := h
  exact ⟨A, n, c, xs, e, h1, h2, h3, h4, rfl, h5⟩
theorem Nw.lw {w : World} {v : Value} {x L : Nat} (h : Nw w v x L) : ∃ xs, vl Q xs = x ∧ Lw w v xs L := by
  obtain ⟨A, n, c, xs, e, h1, h2, h3, h4, h5, h6⟩ := h
  exact ⟨xs, h5, A, n, c, e, h1, h2, h3, h4, h6⟩
theorem Lw.of {w : World} {B : Nat} {v : Value} {xs : List Nat} {L : Nat} (h : Own .u64 62 w B v xs) (dx : Dg Q xs) (hL : xs.length ≤ L) : Lw w v xs L := by
  obtain ⟨A, c, rfl, h1, h2, h3, _⟩ := h.form
  exact ⟨A, _, c, rfl, h3, dx, h1, h2, hL⟩
theorem same_l {w : World} {u v : Value} {xs : List Nat} {L M : Nat} (hu : Lw w u xs L) (hv : Lw w v xs M) :
    Calls Tryz.prog 37 #[u, v] w fun e w' => e = .returned (.bool true) ∧ Below w.heap.size w w' := by
  obtain ⟨A, n, c, rfl, hx, _, h1, h2, _⟩ := hu
  obtain ⟨D, m, d, rfl, hy, _, h3, h4, _⟩ := hv
  refine (same_any _ _ A D _ c _ d _ _ w hx hy (by omega) (by omega)).mono fun e w' ⟨he, m, hm⟩ => ⟨by rw [he, sameB_true rfl], ?_⟩
  rw [hm]
  exact below_drewN (Below.refl _ _) m
theorem copy_l {w : World} {u : Value} {xs : List Nat} {L : Nat} (hu : Lw w u xs L) (hL : L ≤ 17592186044000) :
    Calls Tryz.prog 23 #[u] w fun e w' => ∃ r, e = .returned r ∧ Own .u64 62 w' w.heap.size r xs ∧ Lw w' r xs L ∧ Below w.heap.size w w' := by
  obtain ⟨A, n, c, rfl, hx, dx, h1, h2, h3⟩ := hu
  exact (copy_any A n c xs w hx (by omega)).mono fun e w' ⟨r, he, ho, hb⟩ => ⟨r, he, ho, Lw.of ho dx (by rw [hx.1]; exact h3), hb⟩
theorem of_l {w : World} {u : Value} {xs : List Nat} {L : Nat} (hu : Lw w u xs L) (hL : L ≤ 1000000000) :
    Calls Tryz.prog 45 #[u] w (INew w (vl Q xs) (5 * L)) := by
  obtain ⟨A, n, c, rfl, hx, dx, h1, h2, h3⟩ := hu
  refine (rof_any A n c xs w hx dx (by omega)).mono fun e w' h => INew.of h ?_
  have h := len_words hx.1 dx (Nat.zero_le n)
  rw [List.drop_zero, Nat.sub_zero] at h
  exact Nat.lt_of_lt_of_le h (Nat.pow_le_pow_right (by omega) (by omega))
theorem to_l {w : World} {u : Value} {x L : Nat} (hu : Iw w u x L) (hL : L ≤ 100000000000) :
    Calls Tryz.prog 44 #[u] w fun e w' => ∃ r, e = .returned r ∧ Own .u64 62 w' w.heap.size r (cn Q x) ∧ Cw w' r x L ∧ Below w.heap.size w w' := by
  have hx := hu.lt
  refine (rto_any hu hL).mono fun e w' ⟨r, he, ho, hb⟩ => ⟨r, he, ho, Cw.of ho ?_, hb⟩
  exact Nat.lt_of_lt_of_le hx (Nat.pow_le_pow_left (by decide +kernel) L)
theorem mul_b {w : World} {u v : Value} {x y L M K : Nat} (hu : Nw w u x L) (hv : Nw w v y M) (hL : L ≤ 17592186044416) (hM : M ≤ 17592186044416) (hK : x * y < Q ^ K) :
    Calls Tryz.prog 72 #[u, v] w fun e w' => ∃ r, e = .returned r ∧ Own .u64 62 w' w.heap.size r (cn Q (x * y)) ∧ Cw w' r (x * y) K ∧ Below w.heap.size w w' :=
  (mul_n hu hv hL hM).mono fun e w' ⟨r, he, ho, _, hb⟩ => ⟨r, he, ho, Cw.of ho hK, hb⟩
def GgRel (w : World) (G L gk : Nat) (av bv : Value) (wr : World) : Prop :=
  ∃ u v : Nat, gk = u + v ∧ Own .u64 62 wr w.heap.size av (cn Q u) ∧ Own .u64 62 wr w.heap.size bv (cn Q v) ∧ v ≤ u ∧ Hid (Nat.gcd u v = G) ∧ Hid (u < Q ^ L) ∧
    (∀ g, av.ownBlock = some g → bv.ownBlock ≠ some g) ∧ Below w.heap.size w wr
theorem cn_long {v : Nat} (h : Q ≤ v) : ∃ j, (cn Q v).length = j + 2 := by
  rw [cn_pos Q_two (by have := Q_pos; omega), cn_pos (n := v / Q) Q_two (by have := Nat.div_pos h Q_pos; omega)]
  exact ⟨(cn Q (v / Q / Q)).length, by simp⟩
theorem cn_top {u k : Nat} (h : (cn Q u).length = k + 2) : (cn Q u).getD (k + 1) 0 ≠ 0 := top_of_tz (tz_cn Q_two u) h
theorem cn_len {v u : Nat} (h : v ≤ u) : (cn Q v).length ≤ (cn Q u).length := cn_length_le Q_two (Nat.lt_of_le_of_lt h (lt_of_cn_length Q_two (Nat.le_refl _)))
theorem leap_cells {w : World} {g p0 p1 q0 q1 : Nat} {odd : Bool} (h : w.heap[g]? = some (lblk odd p0 p1 q0 q1)) :
    w.cell? ⟨g, 0, none⟩ = some (.bool odd) ∧ w.cell? ⟨g, 1, none⟩ = some (.int .u64 (p0 : Int)) ∧ w.cell? ⟨g, 2, none⟩ = some (.int .u64 (p1 : Int)) ∧ w.cell? ⟨g, 3, none⟩ = some (.int .u64 (q0 : Int)) ∧ w.cell? ⟨g, 4, none⟩ = some (.int .u64 (q1 : Int)) :=
  ⟨cell_of_row w g 0 _ _ _ h, cell_of_row w g 1 _ _ _ h, cell_of_row w g 2 _ _ _ h, cell_of_row w g 3 _ _ _ h, cell_of_row w g 4 _ _ _ h⟩
set_option maxHeartbeats 8000000 in
theorem gcd_n {w : World} {a b : Value} {x y L : Nat} (hu : Nw w a x L) (hv : Nw w b y L) (hL : L ≤ 17592186044000) :
    Calls Tryz.prog 87 #[a, b] w (OwnRet .u64 62 w (cn Q (Nat.gcd x y))) := by
  have hxL := hide hu.lt
  have hyL := hide hv.lt
  have t1 := hide (ntrim_n hu hL)
  have HV := hide hv
  obtain ⟨G, hG⟩ : ∃ G, Hid (Nat.gcd x y = G) := ⟨_, hide rfl⟩
  rw [hG.out]
  have hst : ∃ s : Int, Hid (cmpN x y = s) ∧ ((s < 0 ∧ x < y) ∨ (0 ≤ s ∧ y ≤ x)) := by
    refine ⟨_, hide rfl, ?_⟩
    rcases Nat.lt_trichotomy x y with h | h | h
    · rw [cmpN_lt h]; left; omega
    · subst h; rw [cmpN_eq]; right; omega
    · rw [cmpN_gt h]; right; omega
  obtain ⟨s, hse, hcase⟩ := hst
  clear hu hv
  rcases hcase with ⟨hs, hxy⟩ | ⟨hs, hxy⟩
  all_goals
    go_enter Tryz.func87, Tryz.ntmps87
    go_wp2_with fail
    refine t1.out.mono ?_
    rintro e w1 ⟨va, rfl, oa, ca, b1⟩
    have t2 := hide (ntrim_n (HV.out.step b1) hL)
    have OA := hide oa
    have CA := hide ca
    have B1 := hide b1
    clear oa ca b1
    go_wp2_with fail
    refine t2.out.mono ?_
    rintro e w2 ⟨vb, rfl, ob, cb, b2⟩
    have hne : ∀ g, va.ownBlock = some g → vb.ownBlock ≠ some g := by
      intro g h1 h2
      have o1 := OA.out
      rcases o1 with ⟨rfl, _⟩ | ⟨g1, _, _, rfl, _, r1, _⟩
      · simp [Value.ownBlock] at h1
      · rcases ob with ⟨rfl, _⟩ | ⟨g2, _, _, rfl, hg2, _, _⟩
        · simp [Value.ownBlock] at h2
        · have := r1.lt
          simp [Value.ownBlock] at h1 h2
          omega
    have oa2 : Own .u64 62 w2 w.heap.size va (cn Q x) := OA.out.below b2 (Nat.le_refl _)
    have ob2 : Own .u64 62 w2 w.heap.size vb (cn Q y) := ob.mono B1.out.size
    have B2 := hide (B1.out.trans (b2.mono B1.out.size))
    have CM := hide (cmp_n (CA.out.step b2).nw cb.nw (by omega) (by omega))
    have stA : x < y → GgRel w G L (x + y) vb va w2 := fun h => ⟨y, x, Nat.add_comm _ _, ob2, oa2, Nat.le_of_lt h, hide (by rw [Nat.gcd_comm]; exact hG.out), hyL, fun g h1 h2 => hne g h2 h1, B2.out⟩
    have stB : y ≤ x → GgRel w G L (x + y) va vb w2 := fun h => ⟨x, y, rfl, oa2, ob2, h, hG, hxL, hne, B2.out⟩
    have StA := hide stA
    have StB := hide stB
    clear stA stB ob cb b2 oa2 ob2 hne OA CA B1 B2 t1 t2 HV hG
    go_wp2_with fail
    refine CM.out.mono ?_
    rw [hse.out]
    rintro e w_ ⟨rfl, rfl⟩
    clear CM
    go_wp2_with fail
    go_loopg [0, 1] (x + y) (fun gk av bv wr => GgRel w G L gk av bv wr)
    case atStart => first | exact StA.out hxy | exact StB.out hxy
    case round =>
      clear StA StB hxy hs hse hxL hyL
      obtain ⟨u, v, rfl, ou, ov, hvu, hg, hL2, hne, hbel⟩ := hrel
      by_cases hv : v < Q
      · by_cases h0 : v = 0
        · subst h0
          obtain ⟨R, cr, hR, -, -, -, -⟩ := ov.form
          rw [cn_zero, List.length_nil] at hR
          subst hR
          have e := hg.out
          rw [Nat.gcd_zero_right] at e
          rw [e] at ou
          clear ov hne hg hvu hL2
          go_wp2_with fail
          go_ret
          exact ⟨_, rfl, ou, hbel⟩
        · obtain ⟨R, cr, hR, hl1, hl2, rv, pv⟩ := ov.form
          have e1 : cn Q v = [v] := by rw [← cn_single hv, tz]; simp [tz, h0]
          rw [e1] at hR rv ov
          simp only [List.length_cons, List.length_nil, Nat.zero_add] at hR rv
          subst hR
          obtain ⟨b, o, rfl, hbb, hc⟩ := rv.at_ (show 0 < 1 by omega)
          simp only [List.getD_cons_zero, Nat.add_zero] at hc
          have hrQ : u % v < Q := Nat.lt_trans (Nat.mod_lt _ (by omega)) hv
          have hgcd : Hid (Nat.gcd v (u % v) = G) := hide (by rw [← hg.out, Nat.gcd_comm u v, Nat.gcd_comm v (u % v), ← Nat.gcd_rec v u])
          have hdw : ∀ W, Below wr.heap.size wr W → Calls Tryz.prog 110 #[u0, .int .u64 (v : Int)] W (fun e w' => e = .returned (.int .u64 ((u % v : Nat) : Int)) ∧ w'.cell? ⟨b, o, none⟩ = some (.int .u64 (v : Int)) ∧ Below w.heap.size w w') := by
            intro W hW
            have ou2 := ou.below hW (Nat.le_refl _)
            have h := divWord_own w.heap.size v u0 _ W ou2 (dg_cn Q_two _) (by omega) hv
            rw [vl_cn Q_two] at h
            refine h.mono fun e w' ⟨us, he, _, du, hvu2, ho2, hgr⟩ => ⟨he, ?_, ?_⟩
            · refine (World.cell?_of_block (hgr.block b (Nat.lt_of_lt_of_le hbb hW.size) ?_)).trans ((hW.cell hbb).trans hc)
              intro h3
              exact hne b h3.symm rfl
            · exact push_below (hbel.trans (hW.mono hbel.size)) ou2 hgr (Nat.le_trans hbel.size hW.size)
          have hGp : Hid (cn Q G = [G]) := hide (by
            have h1 : 0 < G := by rw [← hgcd.out]; exact Nat.gcd_pos_of_pos_left _ (by omega)
            have h2 : G ≤ v := by rw [← hgcd.out]; exact Nat.gcd_le_left _ (by omega)
            rw [← cn_single (show G < Q by omega)]; simp [tz]; omega)
          clear rv pv hl1 hl2 hne hg hvu e1 hL2
          go_wp2_with fail
          go_region_held3 (fun w' => w'.cell? ⟨b, o, none⟩ = some (.int .u64 (v : Int))) (first | exact hc | assumption | exact (World.cell?_alloc_lt _ _ _ (World.block_lt_of_cell? _ _ hc3)).trans hc3)
            (first
              | (go_at_call 110; refine (hdw _ (by first | exact Below.refl _ _ | exact (Below.refl _ _).drew | exact below_drewN (Below.refl _ _) _)).mono ?_; rintro e w3 ⟨rfl, hc3, hb3⟩)
              | (go_at_call 109; refine (gcdWord_any v (u % v) _ hv hrQ).mono ?_; rintro e w4 ⟨rfl, k4, rfl⟩))
          go_wp2_with fail
          go_ret
          rw [hgcd.out]
          refine ⟨_, rfl, ?_, (below_drewN hb3 k4).alloc hb3.size _⟩
          rw [hGp.out]
          exact Own.of_row (Row.new _ .u64 62 #[.int .u64 (G : Int)] [G] (Nat.le_refl _) (fun j hj => by
            match j, hj with
            | 0, _ => rfl)) hb3.size rfl (by simp [maxLen])
      · obtain ⟨j, hj⟩ := cn_long (Nat.le_of_not_lt hv)
        obtain ⟨k, hk⟩ := cn_long (Nat.le_trans (Nat.le_of_not_lt hv) hvu)
        have cu := Cw.of ou hL2.out
        have cv := Cw.of ov (Nat.lt_of_le_of_lt hvu hL2.out)
        have hjk : j ≤ k := by have := cn_len hvu; omega
        have hkL : k + 2 ≤ L := by rw [← hk]; exact cn_length_le Q_two hL2.out
        obtain ⟨Au, ca, hua, -, -, ru, -⟩ := ou.form
        obtain ⟨Av, cb, hvb, -, -, rv, -⟩ := ov.form
        have FL := hide (find_any Au Av k ca (j + 2) cb (cn Q u) (cn Q v) wr (by rw [← hk]; exact ru) (by rw [← hj]; exact rv) (dg_cn Q_two u) (dg_cn Q_two v) (by omega) (by omega) (cn_top hk) (by rw [vl_cn Q_two, vl_cn Q_two]; exact hvu))
        rw [vl_cn Q_two, vl_cn Q_two] at FL
        rw [hk] at hua
        rw [hj] at hvb
        subst hua hvb
        have CU := hide cu
        have CV := hide cv
        have OU := hide ou
        have OV := hide ov
        have HB := hide hbel
        have HN := hide hne
        clear cu cv ou ov hbel hne ru rv hk hj
        go_wp2_with fail
        refine FL.out.mono ?_
        rintro e w3 ⟨odd, p0, p1, q0, q1, rfl, h0, h1, h2, h3, hA, b3⟩
        have W4 : Below w3.heap.size w3 (w3.alloc (lblk odd p0 p1 q0 q1)) := (Below.refl _ _).alloc (Nat.le_refl _) _
        have hl := heap_alloc_new w3 (lblk odd p0 p1 q0 q1)
        have B4 := Below.step b3 b3.size W4
        have hsz : wr.heap.size ≤ w3.heap.size := b3.size
        clear FL W4 b3
        go_wp2_with fail
        refine (far_any odd p0 p1 q0 q1 _).mono ?_
        rintro e w4 ⟨rfl, b4⟩
        have B5 := Below.step B4 B4.size b4
        have hl4 := (b4.block w3.heap.size (by simp)).trans hl
        have CU4 := hide (CU.out.step B5)
        have CV4 := hide (CV.out.step B5)
        have OU4 := hide (OU.out.below B5 (Nat.le_refl _))
        have OV4 := hide (OV.out.below B5 (Nat.le_refl _))
        have HB4 := hide (Below.step HB.out HB.out.size B5)
        clear B4 B5 b4 hl CU CV OU OV HB hsz
        by_cases hp : p1 = 0
        · have tp : decide (p1 ≠ 0) = false := decide_eq_false (by simpa using hp)
          rw [tp]
          have hvp : 0 < v := by have := Q_pos; omega
          have DM := hide (ndivmod CU4.out.nw CV4.out.nw hL hvp)
          have hlt : Hid (v + u % v < u + v) := hide (by have := Nat.mod_lt u hvp; omega)
          have hg2 : Hid (Nat.gcd v (u % v) = G) := hide (by rw [← hg.out, Nat.gcd_comm u v, Nat.gcd_comm v (u % v), ← Nat.gcd_rec v u])
          have hle2 : Hid (u % v ≤ v) := hide (Nat.le_of_lt (Nat.mod_lt _ hvp))
          have hvL : Hid (v < Q ^ L) := hide (Nat.lt_of_le_of_lt hvu hL2.out)
          have hlt3 : Hid (∀ g, (Value.slice Av (j + 2) cb).ownBlock = some g → g < w4.heap.size) := hide (fun g hgg => by
            rcases OV4.out with ⟨h, _⟩ | ⟨g1, _, _, h, _, r1, _⟩
            · rw [h] at hgg; simp [Value.ownBlock] at hgg
            · rw [h] at hgg
              have := r1.lt
              simp [Value.ownBlock] at hgg
              omega)
          clear hA hp tp h0 h1 h2 h3 hl4 hv hvu hg hvp hjk hkL
          go_wp2_with fail
          refine DM.out.mono ?_
          rintro e w5 ⟨q, r, rfl, -, orr, -, -, -, b5⟩
          have fin : GgRel w G L (v + u % v) (.slice Av (j + 2) cb) r w5 := by
            refine ⟨v, u % v, rfl, OV4.out.below b5 (Nat.le_refl _), orr.mono HB4.out.size, hle2.out, hg2, hvL, fun g e1 e2 => ?_, Below.step HB4.out HB4.out.size b5⟩
            have := hlt3.out g e1
            rcases orr with ⟨rfl, _⟩ | ⟨g1, _, _, rfl, hg1, _, _⟩
            · simp [Value.ownBlock] at e2
            · simp [Value.ownBlock] at e2
              omega
          clear DM orr b5 hlt3 OV4 OU4 CU4 CV4 HB4
          go_wp2_with fail
          go_roundg (v + u % v)
          case rel => exact fin
          case measure => exact hlt.out
        · have tp : decide (p1 ≠ 0) = true := decide_eq_true hp
          rw [tp]
          obtain ⟨A, B, hgc, hBA, hAU, hms, he, ho⟩ := hA hp
          obtain ⟨k0, k1, k2, k3, k4⟩ := leap_cells hl4
          have AP := hide (apply_any (odd := odd) CU4.out.nw CV4.out.nw (by omega) h0 h1 h2 h3 hAU (by omega) he ho)
          have hg2 : Hid (Nat.gcd A B = G) := hide (by rw [hgc]; exact hg.out)
          have hAL : Hid (A < Q ^ L) := hide (Nat.lt_of_le_of_lt hAU hL2.out)
          have HM := hide hms
          have HBA := hide hBA
          clear hA hp tp h0 h1 h2 h3 hl4 hv hvu hg hgc hBA hAU hms he ho OU4 OV4 CU4 CV4 hjk hkL
          go_wp2_with fail
          refine AP.out.mono ?_
          rintro e w5 ⟨r, q, rfl, o1, o2, hn2, b5⟩
          have fin : GgRel w G L (A + B) r q w5 :=
            ⟨A, B, rfl, o1.mono HB4.out.size, o2.mono HB4.out.size, HBA.out, hg2, hAL, hn2, Below.step HB4.out HB4.out.size b5⟩
          clear AP o1 o2 hn2 b5 HB4
          go_wp2_with fail
          go_roundg (A + B)
          case rel => exact fin
          case measure => exact HM.out
theorem gcd_lt {x y L : Nat} {B : Nat} (hx : x < B ^ L) (hy : y < B ^ L) : Nat.gcd x y < B ^ L := by
  rcases Nat.eq_zero_or_pos x with h | h
  · subst h; rw [Nat.gcd_zero_left]; exact hy
  · exact Nat.lt_of_le_of_lt (Nat.gcd_le_left _ h) hx
theorem gcd_c {w : World} {a b : Value} {x y L : Nat} (hu : Nw w a x L) (hv : Nw w b y L) (hL : L ≤ 17592186044000) :
    Calls Tryz.prog 87 #[a, b] w fun e w' => ∃ r, e = .returned r ∧ Own .u64 62 w' w.heap.size r (cn Q (Nat.gcd x y)) ∧ Cw w' r (Nat.gcd x y) L ∧ Below w.heap.size w w' :=
  (gcd_n hu hv hL).mono fun e w' ⟨r, he, ho, hb⟩ => ⟨r, he, ho, Cw.of ho (gcd_lt hu.lt hv.lt), hb⟩
end Go.Proofs.YtpfeacdhplbblaaGreat
