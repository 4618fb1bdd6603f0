/-
  Shared texts, one behind the other: Gcd1, Parse, Text, RefA, RefB, RefC, RefD, RefE, RefF, RefG, RefH, RefI, RefJ, RefM, Law, Digits, NParse, BackW, Gcd.
-/
import Derived.Test.YtajjpepjbflojaaGreatDoorBundleB
import Derived.Deep.RegionHeld3
import Derived.Lib.SlTrimSet
import Derived.BigRegion
import Derived.ChangeAlike
import Derived.Deep.LoopGhost
import Derived.Test.YtajjpepjbflojaaGreatDoorBundleA
import Derived.Deep.DeepCutAuto
import Derived.Deep.CutBlock
import Derived.BigGuardPart
import Derived.Deep.QuietTactic
import Derived.BigQuiet
import Derived.IntWalk
import Derived.SizedLaws

/-
  nat.Gcd where the lesser number has at most one word.
-/

namespace Go.Proofs.YtajjpepjbflojaaGreatDoor
open Go.RowKit Go.Proofs.YtajjpepjbflojaaGreatDoor.Num
set_option linter.unusedVariables false
set_option maxRecDepth 100000

theorem gcdWord_any (a b : Nat) (w : World) (ha : a < Q) (hb : b < Q) :
    Calls Tryz.prog 96 #[.int .u64 (a : Int), .int .u64 (b : Int)] w (QuietRet w (.int .u64 ((Nat.gcd a b : Nat) : Int))) := by
  obtain ⟨G, hG⟩ : ∃ G, Hid (Nat.gcd a b = G) := ⟨_, hide rfl⟩
  rw [hG.out]
  go_enter Tryz.func96, Tryz.ntmps96
  go_wp2_with fail
  go_loopw [0, 1] (fun av bv wr => ∃ x y q : Nat, av = .int .u64 (x : Int) ∧ bv = .int .u64 (y : Int) ∧ x < Q ∧ y < Q ∧ Hid (Nat.gcd x y = G) ∧ wr = w.drewN q) (fun _ bv _ => (intOf bv).toNat)
  case atStart => exact ⟨a, b, 0, rfl, rfl, ha, hb, hG, rfl⟩
  case round =>
    obtain ⟨x, y, q, rfl, rfl, hx, hy, hg, rfl⟩ := hrel
    clear hG ha hb
    by_cases h0 : y = 0
    · subst h0
      have e := hg.out
      rw [Nat.gcd_zero_right] at e
      have b0 : (((0 : Int) != 0)) = false := rfl
      clear hg hx hy
      go_wp2_with fail
      go_ret
      exact ⟨by rw [← e]; rfl, q, rfl⟩
    · have b0 : ((y : Int) != 0) = true := by rw [bne_iff_ne]; omega
      have b1 : ((y : Int) == 0) = false := beq_eq_false_iff_ne.2 (by omega)
      have c1 : (1 : Int) ≤ (y : Int) := by omega
      have e2 : (x : Int) % (y : Int) = ((x % y : Nat) : Int) := (Int.natCast_emod x y).symm
      have hlt : x % y < y := Nat.mod_lt _ (by omega)
      have hg2 : Hid (Nat.gcd y (x % y) = G) := hide (by rw [← hg.out, Nat.gcd_comm x y, Nat.gcd_comm y (x % y), ← Nat.gcd_rec y x])
      have hr : ∃ r, Hid (x % y = r) := ⟨_, hide rfl⟩
      obtain ⟨r, hr⟩ := hr
      rw [hr.out] at e2 hlt hg2
      have hrQ : r < Q := by omega
      have b3 : (r : Int) ≤ 18446744073709551615 := by unfold Q at hrQ; omega
      have hxI : (x : Int) ≤ 18446744073709551615 := by unfold Q at hx; omega
      have fin : ∀ nq : Nat, ∃ x' y' q' : Nat, Value.int .u64 (y : Int) = .int .u64 (x' : Int) ∧ Value.int .u64 (r : Int) = .int .u64 (y' : Int) ∧ x' < Q ∧ y' < Q ∧ Hid (Nat.gcd x' y' = G) ∧ (w.drewN q).drewN nq = w.drewN q' :=
        fun nq => ⟨y, r, q + nq, rfl, rfl, hy, hrQ, hg2, World.drewN_drewN _ _ _⟩
      have Fin := hide fin
      have E2 := hide e2
      have Hlt := hide hlt
      clear hg hg2 hr hrQ fin hx hy
      go_wp2_with fail
      go_quiet (fail)
      go_wp2_with fail
      go_roundw
      case rel => first | exact Fin.out nq | (rw [E2.out]; exact Fin.out nq)
      case measure =>
        have h := Hlt.out
        have h2 := E2.out
        simp [intOf]
        omega

/-- What the loop holds: two numbers of the call's own, in order, with the divisor that is sought. -/
def GRel (w : World) (G : Nat) (av bv : Value) (wr : World) : Prop :=
  ∃ u v : Nat, Own .u64 65 wr w.heap.size av (cn Q u) ∧ Own .u64 65 wr w.heap.size bv (cn Q v) ∧ v < Q ∧ v ≤ u ∧ Hid (Nat.gcd u v = G) ∧ (∀ g, av.ownBlock = some g → bv.ownBlock ≠ some g) ∧ Below w.heap.size w wr

set_option maxHeartbeats 2000000 in
/-- The last step: a list and one word. -/
theorem gcd_short (A D : Option Addr) (n c m d : Nat) (xs ys : List Nat) (w : World) (hx : Rd .u64 w w.heap.size A n xs) (hy : Rd .u64 w w.heap.size D m ys)
    (dx : Dg Q xs) (dy : Dg Q ys) (hnc : n ≤ c) (hc : c ≤ maxLen) (hmd : m ≤ d) (hd : d ≤ maxLen) (hn : n ≤ 17592186044000) (hm : m ≤ 17592186044000)
    (hs : min (vl Q xs) (vl Q ys) < Q) :
    Calls Tryz.prog 74 #[.slice A n c, .slice D m d] w (OwnRet .u64 65 w (cn Q (Nat.gcd (vl Q xs) (vl Q ys)))) := by
  have t1 := trim_any A n c xs w hx dx hnc hc hn
  have t2 : ∀ w1, Below w.heap.size w w1 → Calls Tryz.prog 34 #[.slice D m d] w1 (OwnRet .u64 65 w1 (cn Q (vl Q ys))) :=
    fun w1 hb => trim_any D m d ys w1 ((hy.below hb (Nat.le_refl _)).more hb.size) dy hmd hd hm
  generalize vl Q xs = x at *
  generalize vl Q ys = y at *
  have hcmp : ∀ (W : World) (P R : Option Addr) (cp cr : Nat), Rd .u64 W W.heap.size P (cn Q x).length (cn Q x) → Rd .u64 W W.heap.size R (cn Q y).length (cn Q y) → (cn Q x).length ≤ maxLen → (cn Q y).length ≤ maxLen →
      Calls Tryz.prog 92 #[.slice P (cn Q x).length cp, .slice R (cn Q y).length cr] W fun e w' => e = .returned (.int .i64 (cmpN x y)) ∧ W = w' := by
    intro W P R cp cr h1 h2 h3 h4
    have h := cmp_any W.heap.size P R _ cp _ cr _ _ W h1 h2 (dg_cn Q_two x) (dg_cn Q_two y) h3 h4
    rwa [vl_cn Q_two, vl_cn Q_two] at h
  obtain ⟨G, hG⟩ : ∃ G, Hid (Nat.gcd x y = G) := ⟨_, hide rfl⟩
  rw [hG.out]
  have hst : ∃ s : Int, cmpN x y = s ∧ ((s < 0 ∧ x < y) ∨ (0 ≤ s ∧ y ≤ x)) := by
    refine ⟨_, rfl, ?_⟩
    rcases Nat.lt_trichotomy x y with h | h | h
    · rw [cmpN_lt h]; left; omega
    · subst h; rw [cmpN_eq]; right; omega
    · rw [cmpN_gt h]; right; omega
  obtain ⟨s, hse, hcase⟩ := hst
  rw [hse] at hcmp
  have start : ∀ (va vb : Value) (w2 : World), Own .u64 65 w2 w.heap.size va (cn Q x) → Own .u64 65 w2 w.heap.size vb (cn Q y) → (∀ g, va.ownBlock = some g → vb.ownBlock ≠ some g) → Below w.heap.size w w2 →
      (x < y → GRel w G vb va w2) ∧ (y ≤ x → GRel w G va vb w2) := by
    intro va vb w2 oa ob hne hb
    refine ⟨fun h => ⟨y, x, ob, oa, by omega, by omega, hide (by rw [Nat.gcd_comm]; exact hG.out), fun g h1 h2 => hne g h2 h1, hb⟩, fun h => ⟨x, y, oa, ob, by omega, h, hG, hne, hb⟩⟩
  have two : ∀ (va vb : Value) (w1 w2 : World), Own .u64 65 w1 w.heap.size va (cn Q x) → Below w.heap.size w w1 → Own .u64 65 w2 w1.heap.size vb (cn Q y) → Below w1.heap.size w1 w2 →
      ∃ PA ca PB cb, va = .slice PA (cn Q x).length ca ∧ vb = .slice PB (cn Q y).length cb ∧ Rd .u64 w2 w2.heap.size PA (cn Q x).length (cn Q x) ∧ Rd .u64 w2 w2.heap.size PB (cn Q y).length (cn Q y) ∧ (cn Q x).length ≤ maxLen ∧ (cn Q y).length ≤ maxLen ∧
        (x < y → GRel w G vb va w2) ∧ (y ≤ x → GRel w G va vb w2) := by
    intro va vb w1 w2 oa hb1 ob hb2
    have oa2 := oa.below hb2 (Nat.le_refl _)
    obtain ⟨PA, ca, ea, h1, h2, ra, pa⟩ := oa2.form
    obtain ⟨PA', ca', ea', _, _, _, pa'⟩ := oa.form
    obtain ⟨PB, cb, eb, h3, h4, rb, pb⟩ := ob.form
    obtain ⟨k1, k2⟩ := start va vb w2 oa2 (ob.mono hb1.size) (fun g hg hg' => by
      rw [ea'] at hg
      rw [eb] at hg'
      cases PA' with
      | none => simp [Value.ownBlock] at hg
      | some a =>
        cases PB with
        | none => simp [Value.ownBlock] at hg'
        | some b =>
          simp [Value.ownBlock] at hg hg'
          have := (pa' a rfl).2
          have := (pb b rfl).1
          omega) (hb1.trans (hb2.mono hb1.size))
    exact ⟨PA, ca, PB, cb, ea, eb, ra, rb, by omega, by omega, k1, k2⟩
  clear hs start hG dx dy hx hy hnc hc hmd hd hn hm hse
  generalize (cn Q x).length = lx at *
  generalize (cn Q y).length = ly at *
  rcases hcase with ⟨hs, hxy⟩ | ⟨hs, hxy⟩
  all_goals
    go_enter Tryz.func74, Tryz.ntmps74
    go_wp2_with (first
      | (go_at_call 34; (with_reducible refine t1.mono ?_); rintro e w1 ⟨va, rfl, oa, hb1⟩)
      | (go_at_call 34; (with_reducible refine (t2 _ hb1).mono ?_); rintro e w2 ⟨vb, rfl, ob, hb2⟩; obtain ⟨PA, ca, PB, cb, rfl, rfl, ra, rb, la, lb, st1, st2⟩ := two va vb _ _ oa hb1 ob hb2)
      | (go_at_call 92; refine (hcmp _ _ _ _ _ ra rb la lb).mono ?_; rintro e w' ⟨rfl, rfl⟩))
    go_loopw [0, 1] (fun av bv wr => GRel w G av bv wr) (fun _ _ _ => 0)
    case atStart => first | exact st1 hxy | exact st2 hxy
    case round =>
      obtain ⟨u, v, ou, ov, hv, hvu, hg, hne, hbel⟩ := hrel
      clear t1 t2 hcmp two st1 st2 ra rb la lb oa ob hb1 hb2 hs
      obtain ⟨R, cr, hR, hl1, hl2, rv, pv⟩ := ov.form
      by_cases h0 : v = 0
      · subst h0
        rw [cn_zero, List.length_nil] at hR
        subst hR
        have e := hg.out
        rw [Nat.gcd_zero_right] at e
        rw [e] at ou
        clear rv pv hl1 hl2 ov hne hg hv hvu
        go_wp2_with fail
        go_ret
        exact ⟨_, rfl, ou, hbel⟩
      · have e1 : cn Q v = [v] := by rw [← cn_single hv, tz]; simp [tz, h0]
        rw [e1] at hR rv ov
        simp only [List.length_cons, List.length_nil, Nat.zero_add] at hR rv
        subst hR
        obtain ⟨b, o, rfl, hbb, hc⟩ := rv.at_ (show 0 < 1 by omega)
        simp only [List.getD_cons_zero, Nat.add_zero] at hc
        have hrQ : u % v < Q := Nat.lt_trans (Nat.mod_lt _ (by omega)) hv
        have hgcd : Hid (Nat.gcd v (u % v) = G) := hide (by rw [← hg.out, Nat.gcd_comm u v, Nat.gcd_comm v (u % v), ← Nat.gcd_rec v u])
        have hdw : ∀ W, Below wr.heap.size wr W → Calls Tryz.prog 36 #[u0, .int .u64 (v : Int)] W (fun e w' => e = .returned (.int .u64 ((u % v : Nat) : Int)) ∧ w'.cell? ⟨b, o, none⟩ = some (.int .u64 (v : Int)) ∧ Below w.heap.size w w') := by
          intro W hW
          have ou2 := ou.below hW (Nat.le_refl _)
          have h := divWord_own w.heap.size v u0 _ W ou2 (dg_cn Q_two _) (by omega) hv
          rw [vl_cn Q_two] at h
          refine h.mono fun e w' ⟨us, he, _, du, hvu2, ho2, hgr⟩ => ⟨he, ?_, ?_⟩
          · refine (World.cell?_of_block (hgr.block b (Nat.lt_of_lt_of_le hbb hW.size) ?_)).trans ((hW.cell hbb).trans hc)
            intro h3
            exact hne b h3.symm rfl
          · exact push_below (hbel.trans (hW.mono hbel.size)) ou2 hgr (Nat.le_trans hbel.size hW.size)
        have hGp : Hid (cn Q G = [G]) := hide (by
          have h1 : 0 < G := by rw [← hgcd.out]; exact Nat.gcd_pos_of_pos_left _ (by omega)
          have h2 : G ≤ v := by rw [← hgcd.out]; exact Nat.gcd_le_left _ (by omega)
          rw [← cn_single (show G < Q by omega)]; simp [tz]; omega)
        clear rv pv hl1 hl2 hne hg hvu e1
        go_wp2_with fail
        go_region_held3 (fun w' => w'.cell? ⟨b, o, none⟩ = some (.int .u64 (v : Int))) (first | exact hc | assumption | exact (World.cell?_alloc_lt _ _ _ (World.block_lt_of_cell? _ _ hc3)).trans hc3)
          (first
            | (go_at_call 36; refine (hdw _ (by first | exact Below.refl _ _ | exact (Below.refl _ _).drew | exact below_drewN (Below.refl _ _) _)).mono ?_; rintro e w3 ⟨rfl, hc3, hb3⟩)
            | (go_at_call 96; refine (gcdWord_any v (u % v) _ hv hrQ).mono ?_; rintro e w4 ⟨rfl, k4, rfl⟩))
        go_wp2_with fail
        go_ret
        rw [hgcd.out]
        refine ⟨_, rfl, ?_, (below_drewN hb3 k4).alloc hb3.size _⟩
        rw [hGp.out]
        exact Own.of_row (Row.new _ .u64 65 #[.int .u64 (G : Int)] [G] (Nat.le_refl _) (fun j hj => by
          match j, hj with
          | 0, _ => rfl)) hb3.size rfl (by simp [maxLen])
end Go.Proofs.YtajjpepjbflojaaGreatDoor

/-
  nat.Parse: decimal digits read.
-/

namespace Go.Proofs.YtajjpepjbflojaaGreatDoor
open Go.RowKit Go.Proofs.YtajjpepjbflojaaGreatDoor.Num
set_option linter.unusedVariables false
set_option maxRecDepth 100000

theorem mul64_10 (x : Nat) (hx : x < Q) (w : World) :
    Calls Tryz.prog 112 #[.int .u64 (x : Int), .int .u64 10] w fun e w' => e = .returned (.tuple #[.int .u64 ((mulHi x 10 : Nat) : Int), .int .u64 ((mulLo x 10 : Nat) : Int)]) ∧ w = w' := mul64 x 10 hx (by unfold Q; omega) w

theorem ad_step {k v ov : Nat} {us zs : List Nat} {d : Nat} (hu : us.length = k) (hz : zs.getD k 0 = v)
    (h : vl Q us + Q ^ k * ov = vl Q (zs.take k) * 10 + d) :
    vl Q (us ++ [addLo (mulLo v 10) ov 0]) + Q ^ (k + 1) * (mulHi v 10 + addCy (mulLo v 10) ov 0) = vl Q (zs.take (k + 1)) * 10 + d := by
  rw [vl_snoc, hu, take_next zs k v hz, Nat.pow_succ]
  have e1 := mul_spec v 10
  have e2 := add_spec (mulLo v 10) ov 0
  generalize addLo (mulLo v 10) ov 0 = l1 at *
  generalize addCy (mulLo v 10) ov 0 = c1 at *
  generalize mulHi v 10 = hi at *
  generalize mulLo v 10 = lo at *
  have key : l1 + Q * (hi + c1) = ov + v * 10 := by rw [Nat.mul_add]; omega
  have e4 : Q ^ k * l1 + Q ^ k * Q * (hi + c1) = Q ^ k * ov + Q ^ k * v * 10 := by
    rw [Nat.mul_assoc, ← Nat.mul_add, key, Nat.mul_add, Nat.mul_assoc]
  rw [Nat.add_mul]
  omega
theorem ad_bound {v ov : Nat} (hv : v < Q) (ho : ov < 10) : mulHi v 10 + addCy (mulLo v 10) ov 0 < 10 := by
  have e1 := mul_spec v 10
  have e2 := add_spec (mulLo v 10) ov 0
  have key : Q * (mulHi v 10 + addCy (mulLo v 10) ov 0) ≤ v * 10 + ov := by rw [Nat.mul_add]; omega
  have h2 : v * 10 + ov < Q * 10 := by omega
  exact Nat.lt_of_mul_lt_mul_left (Nat.lt_of_le_of_lt key h2)

/-- A list whose number has its length is in the one form. -/
theorem canon_ge {us : List Nat} (du : Dg Q us) (h : us.length = 0 ∨ Q ^ (us.length - 1) ≤ vl Q us) : cn Q (vl Q us) = us := by
  rw [cn_vl Q_two du]
  rcases h with h | h
  · rw [List.eq_nil_of_length_eq_zero h]; rfl
  · rcases Nat.lt_or_ge (tz us).length us.length with hl | hl
    · have h1 := vl_lt (tz_dg du)
      rw [tz_vl] at h1
      have h2 : Q ^ (tz us).length ≤ Q ^ (us.length - 1) := Nat.pow_le_pow_right Q_pos (by omega)
      omega
    · rw [tz_take, List.take_of_length_le hl]

def AdRel (w : World) (g n d : Nat) (C : Array Value) (zs : List Nat) (cv iv : Value) (wr : World) : Prop :=
  ∃ (k ov : Nat) (us : List Nat), k ≤ n ∧ iv = .int .i64 (k : Int) ∧ cv = .int .u64 (ov : Int) ∧ ov < 10 ∧ us.length = k ∧ Dg Q us ∧
    Hid (vl Q us + Q ^ k * ov = vl Q (zs.take k) * 10 + d) ∧ Row .u64 65 wr g 0 C (us ++ zs.drop k) ∧ w.grownBy wr (some g)

/-- What a step of reading leaves. -/
def AdRet (t : TypeId) (w : World) (B S : Nat) (e : Ending) (w' : World) : Prop := ∃ v, e = .returned v ∧ Own .u64 t w' B v (cn Q S) ∧ Below B w w'

set_option maxHeartbeats 2000000 in
theorem appendDigit_row (B g n c d : Nat) (C : Array Value) (zs : List Nat) (w : World) (hr : Row .u64 65 w g 0 C zs) (hzn : zs.length = n) (dz : Dg Q zs) (hcan : cn Q (vl Q zs) = zs) (hd : d < 10)
    (hB : B ≤ g) (hBw : B ≤ w.heap.size) (hC : C.size = c) (hcm : c ≤ maxLen) (hn : n ≤ 17592186044000) :
    Calls Tryz.prog 90 #[.slice (some ⟨g, 0, none⟩) n c, .int .u64 (d : Int)] w (AdRet 65 w B (vl Q zs * 10 + d)) := by
  have e0 : AdRel w g n d C zs (.int .u64 (d : Int)) (.int .i64 0) w := ⟨0, d, [], by omega, rfl, rfl, hd, rfl, Dg.nil, hide (by simp [vl]), by simpa using hr, only_refl _ _⟩
  have Hz := hide hzn
  have Hcan := hide hcan
  obtain ⟨i0, hi, hz0, hz1, hz2⟩ := info_parts info_u64
  clear hzn hcan
  have hlow : Hid (n = 0 ∨ Q ^ (n - 1) ≤ vl Q zs) := hide (by
    rcases Nat.eq_zero_or_pos n with h | h
    · exact .inl h
    · right
      have := pos_of_tz (ys := zs) (by rw [← cn_vl Q_two dz]; exact Hcan.out) (by rw [Hz.out]; exact h) dz
      rwa [Hz.out] at this)
  go_enter Tryz.func90, Tryz.ntmps90
  go_wp2_with fail
  go_loopw [5, 14] (fun cv iv wr => AdRel w g n d C zs cv iv wr) (fun _ iv _ => n - (intOf iv).toNat)
  case atStart => exact e0
  case round =>
    obtain ⟨k, ov, us, hk, rfl, rfl, hov, hu, du, hv, hrow, hg⟩ := hrel
    clear e0
    by_cases hlt : k < n
    · have hkz : k < zs.length := by rw [Hz.out]; exact hlt
      obtain ⟨v, ev⟩ : ∃ v, Hid (zs.getD k 0 = v) := ⟨_, hide rfl⟩
      have hll : k < (us ++ zs.drop k).length := by simp; omega
      have hcell := hrow.cell hll
      rw [drop_getD us zs hu, ev.out, Nat.zero_add] at hcell
      have hfr := hrow.frozen k
      have bv : v < Q := by rw [← ev.out]; exact dz.getD Q_pos k
      have hst := hrow.set_ hll (addLo (mulLo v 10) ov 0)
      rw [drop_set us zs hu hkz, Nat.zero_add] at hst
      have hv2 := hide (ad_step hu ev.out hv.out)
      have hbd := ad_bound bv hov
      have hg2 := only_set (p := ⟨g, k, none⟩) hg rfl (.int .u64 ((addLo (mulLo v 10) ov 0 : Nat) : Int))
      have fin : AdRel w g n d C zs (.int .u64 ((mulHi v 10 + addCy (mulLo v 10) ov 0 : Nat) : Int)) (.int .i64 ((k + 1 : Nat) : Int)) (wr.setCell ⟨g, k, none⟩ (.int .u64 ((addLo (mulLo v 10) ov 0 : Nat) : Int))) :=
        ⟨k + 1, _, _, by omega, rfl, rfl, hbd, by simp [hu], du.append (Dg.cons (addLo_lt _ _ _) Dg.nil), hv2, hst, hg2⟩
      have hm := mul64_10 v bv wr
      have a1 := add64_0 (mulLo v 10) ov
      generalize addLo (mulLo v 10) ov 0 = l1 at *
      generalize addCy (mulLo v 10) ov 0 = c1 at *
      generalize mulLo v 10 = lo at *
      generalize mulHi v 10 = hi' at *
      have b1 : (hi' : Int) + (c1 : Int) ≤ 18446744073709551615 := by omega
      clear hst hv2 hg2 hbd hu du hv hrow hg hll hkz bv dz hr Hz Hcan hlow hov ev
      go_wp2_with (go_at_call 112; refine hm.mono ?_; rintro e w' ⟨rfl, rfl⟩)
      go_roundw
      case rel => exact fin
      case measure => simp [intOf]; omega
    · obtain rfl : k = n := by omega
      have e := hv.out
      rw [List.take_of_length_le (by rw [Hz.out]; exact Nat.le_refl _)] at e
      rw [List.drop_eq_nil_of_le (by rw [Hz.out]; exact Nat.le_refl _), List.append_nil] at hrow
      have hbel : Below B w wr := below_only (Below.refl _ _) hg hBw hB
      have hown := Own.of_row hrow hB hC hcm
      rw [hu] at hown
      by_cases h0 : ov = 0
      · subst h0
        rw [Nat.mul_zero, Nat.add_zero] at e
        have fin : AdRet 65 w B (vl Q zs * 10 + d) (.returned (.slice (some ⟨g, 0, none⟩) k c)) wr := by
          refine ⟨_, rfl, ?_, hbel⟩
          rw [← e, canon_ge du (by rw [hu, e]; rcases hlow.out with h | h; exact .inl h; right; omega)]
          exact hown
        have b0 : (((0 : Int) != 0)) = false := rfl
        clear e hrow hv hu du hg hr dz Hz Hcan hlow hown hbel
        go_wp2_with fail
        go_ret
        exact fin
      · have b0 : ((ov : Int) != 0) = true := by rw [bne_iff_ne]; omega
        have hsz := hbel.size
        have hcan2 : Hid (cn Q (vl Q zs * 10 + d) = us ++ [ov]) := hide (by
          have hq : ov < Q := by unfold Q; omega
          have hd2 : Dg Q (us ++ [ov]) := du.append (Dg.cons hq Dg.nil)
          rw [← e, ← hu, ← vl_snoc, cn_of_last Q_two hd2 h0])
        have fin : ∀ v' w', Own .u64 65 w' B v' (us ++ [ov]) → wr.grownBy w' (Value.slice (some ⟨g, 0, none⟩) k c).ownBlock → AdRet 65 w B (vl Q zs * 10 + d) (.returned v') w' := by
          intro v' w' ho hgr
          exact ⟨v', rfl, by rw [hcan2.out]; exact ho, push_below hbel hown hgr (Nat.le_trans hBw hsz)⟩
        have Hown := hide hown
        have Hlen : Hid (us.length + 1 ≤ 17592186044416) := hide (by omega)
        have Hsz : Hid (B ≤ wr.heap.size) := hide (Nat.le_trans hBw hsz)
        clear e hrow hv hu du hg hr dz Hz Hcan hlow hown hbel hcan2 hsz
        go_wp2_with (at_builtin; refine wpList_push rfl (.tmp 39) (.tmp 41) 22 rfl Tryz.underlying22 hi hz0 hz1 hz2 rfl wr B _ us ov Hown.out rfl rfl Hlen.out (by decide) Hsz.out ?_; intro v' w' ho hgr; have fin2 := fin v' w' ho hgr.1; clear fin ho hgr)
        go_ret
        exact fin2

set_option maxHeartbeats 1000000 in
theorem appendDigit_nil (B d : Nat) (w : World) (hd : d < 10) (hBw : B ≤ w.heap.size) :
    Calls Tryz.prog 90 #[.slice none 0 0, .int .u64 (d : Int)] w (AdRet 65 w B d) := by
  obtain ⟨i0, hi, hz0, hz1, hz2⟩ := info_parts info_u64
  have hdQ : d < Q := by unfold Q; omega
  by_cases h0 : d = 0
  · subst h0
    have fin : AdRet 65 w B 0 (.returned (.slice none 0 0)) w := ⟨_, rfl, by rw [cn_zero]; exact Own.nil, Below.refl _ _⟩
    have b0 : (((0 : Int) != 0)) = false := rfl
    go_enter Tryz.func90, Tryz.ntmps90
    go_wp2_with fail
    go_loop [5, 14] (fun cv iv => cv = .int .u64 0 ∧ iv = .int .i64 0) (fun _ _ => 0)
    case atStart => exact ⟨rfl, rfl⟩
    case round =>
      obtain ⟨rfl, rfl⟩ := hrel
      go_wp2_with fail
      go_ret
      exact fin
  · have b0 : ((d : Int) != 0) = true := by rw [bne_iff_ne]; omega
    have hcan : Hid (cn Q d = [d]) := hide (by rw [← cn_single hdQ]; simp [tz, h0])
    have fin : ∀ v' w', Own .u64 65 w' B v' ([] ++ [d]) → w.grownBy w' (Value.slice none 0 0).ownBlock → AdRet 65 w B d (.returned v') w' := by
      intro v' w' ho hgr
      exact ⟨v', rfl, by rw [hcan.out]; exact ho, push_below (k := .u64) (e := 65) (Below.refl _ _) Own.nil hgr hBw⟩
    have Hsz := hide hBw
    clear hBw h0
    go_enter Tryz.func90, Tryz.ntmps90
    go_wp2_with fail
    go_loop [5, 14] (fun cv iv => cv = .int .u64 (d : Int) ∧ iv = .int .i64 0) (fun _ _ => 0)
    case atStart => exact ⟨rfl, rfl⟩
    case round =>
      obtain ⟨rfl, rfl⟩ := hrel
      go_wp2_with (at_builtin; refine wpList_push rfl (.tmp 39) (.tmp 41) 22 rfl Tryz.underlying22 hi hz0 hz1 hz2 rfl w B _ [] d Own.nil rfl rfl (by simp) (by decide) Hsz.out ?_; intro v' w' ho hgr; have fin2 := fin v' w' ho hgr.1; clear fin ho hgr)
      go_ret
      exact fin2

theorem appendDigit_own (B S d : Nat) (v : Value) (w : World) (h : Own .u64 65 w B v (cn Q S)) (hd : d < 10) (hBw : B ≤ w.heap.size) (hn : (cn Q S).length ≤ 17592186044000) :
    Calls Tryz.prog 90 #[v, .int .u64 (d : Int)] w (AdRet 65 w B (S * 10 + d)) := by
  rcases h with ⟨rfl, he⟩ | ⟨g, cap, C, rfl, hB, hr, hC, hm⟩
  · have h0 := (cn_eq_nil Q_two).1 he
    subst h0
    rw [Nat.zero_mul, Nat.zero_add]
    exact appendDigit_nil B d w hd hBw
  · have h := appendDigit_row B g _ cap d C _ w hr rfl (dg_cn Q_two S) (by rw [vl_cn Q_two]) hd hB hBw hC hm hn
    rwa [vl_cn Q_two] at h

/-! ### Digits -/
def allDig (l : List UInt8) : Bool := l.all fun b => decide (48 ≤ b.toNat) && decide (b.toNat ≤ 57)
def dval (l : List UInt8) : Nat := l.foldl (fun a b => a * 10 + (b.toNat - 48)) 0
/-- ErrDigit, ErrLong, or none. -/
def pcode (l : List UInt8) : Nat := if l = [] ∨ allDig l = false then 5 else if 200 < l.length then 1 else 0
theorem dval_snoc (l : List UInt8) (b : UInt8) : dval (l ++ [b]) = dval l * 10 + (b.toNat - 48) := by unfold dval; rw [List.foldl_append]; rfl
theorem allDig_mem {l : List UInt8} (h : allDig l = true) {b : UInt8} (hb : b ∈ l) : 48 ≤ b.toNat ∧ b.toNat ≤ 57 := by
  unfold allDig at h
  have := List.all_eq_true.1 h b hb
  simpa using this
theorem dval_take_lt (l : List UInt8) (h : allDig l = true) (k : Nat) : dval (l.take k) < 10 ^ k := by
  induction k with
  | zero => simp [dval]
  | succ k ih =>
    rcases Nat.lt_or_ge k l.length with hk | hk
    · rw [List.take_succ_eq_append_getElem hk, dval_snoc, Nat.pow_succ]
      have := allDig_mem h (List.getElem_mem hk)
      omega
    · rw [List.take_of_length_le (by omega)]
      rw [List.take_of_length_le hk] at ih
      rw [Nat.pow_succ]
      omega

def digSet : List UInt8 := [48, 49, 50, 51, 52, 53, 54, 55, 56, 57]
theorem digSet_fin : ∀ n : Fin 256, digSet.contains (UInt8.ofNat n.val) = (decide (48 ≤ n.val) && decide (n.val ≤ 57)) := by decide +kernel
theorem digSet_iff (b : UInt8) : digSet.contains b = (decide (48 ≤ b.toNat) && decide (b.toNat ≤ 57)) := by
  have h := digSet_fin ⟨b.toNat, b.toNat_lt⟩
  rw [show UInt8.ofNat b.toNat = b from UInt8.ofNat_toNat] at h
  exact h
theorem dropWhile_nil {p : UInt8 → Bool} : ∀ {l : List UInt8}, l.dropWhile p = [] ↔ l.all p = true := by
  intro l
  induction l with
  | nil => simp
  | cons x l ih =>
    rw [List.dropWhile_cons, List.all_cons]
    by_cases h : p x = true
    · rw [if_pos h, ih, h]; simp
    · rw [if_neg h]; simp [h]
theorem dropWhile_head {p : UInt8 → Bool} {x : UInt8} {r : List UInt8} : ∀ {l : List UInt8}, l.dropWhile p = x :: r → p x = false := by
  intro l
  induction l with
  | nil => intro h; cases h
  | cons y l ih =>
    intro h
    rw [List.dropWhile_cons] at h
    by_cases hp : p y = true
    · rw [if_pos hp] at h; exact ih h
    · rw [if_neg hp] at h
      injection h with h1 h2
      subst h1
      simpa using hp
theorem trim_empty (l : List UInt8) : (Lib.trimS l [48, 49, 50, 51, 52, 53, 54, 55, 56, 57]).isEmpty = allDig l := by
  have hp : (fun b => digSet.contains b) = fun b : UInt8 => (decide (48 ≤ b.toNat) && decide (b.toNat ≤ 57)) := funext digSet_iff
  have e : Lib.trimS l [48, 49, 50, 51, 52, 53, 54, 55, 56, 57] = ((l.reverse.dropWhile fun b => digSet.contains b).reverse).dropWhile fun b => digSet.contains b := rfl
  rw [e, hp]
  by_cases h : allDig l = true
  · have h1 : l.reverse.dropWhile (fun b : UInt8 => (decide (48 ≤ b.toNat) && decide (b.toNat ≤ 57))) = [] := dropWhile_nil.2 (by rw [List.all_reverse]; exact h)
    rw [h1, h]; rfl
  · have h1 : l.reverse.dropWhile (fun b : UInt8 => (decide (48 ≤ b.toNat) && decide (b.toNat ≤ 57))) ≠ [] := fun hh => h (by
      have := dropWhile_nil.1 hh
      rwa [List.all_reverse] at this)
    obtain ⟨x, r, hr⟩ : ∃ x r, l.reverse.dropWhile (fun b : UInt8 => (decide (48 ≤ b.toNat) && decide (b.toNat ≤ 57))) = x :: r := by
      cases hd : l.reverse.dropWhile (fun b : UInt8 => (decide (48 ≤ b.toNat) && decide (b.toNat ≤ 57))) with
      | nil => exact absurd hd h1
      | cons x r => exact ⟨x, r, rfl⟩
    have hx := dropWhile_head hr
    rw [hr]
    have h2 : ((x :: r).reverse.dropWhile (fun b : UInt8 => (decide (48 ≤ b.toNat) && decide (b.toNat ≤ 57)))) ≠ [] := fun hh => by
      have := dropWhile_nil.1 hh
      rw [List.all_reverse, List.all_cons, hx] at this
      simp at this
    have h3 : allDig l = false := by simpa using h
    rw [h3]
    cases hd : (x :: r).reverse.dropWhile (fun b : UInt8 => (decide (48 ≤ b.toNat) && decide (b.toNat ≤ 57))) with
    | nil => exact absurd hd h2
    | cons a b => rfl

/-- What Parse answers. -/
def ParseRet (t : TypeId) (w : World) (l : List UInt8) (e : Ending) (w' : World) : Prop :=
  (pcode l ≠ 0 → e = .returned (.tuple #[.slice none 0 0, .int .i64 (pcode l : Int)])) ∧
  (pcode l = 0 → ∃ v, e = .returned (.tuple #[v, .int .i64 0]) ∧ Own .u64 t w' w.heap.size v (cn Q (dval l))) ∧ Below w.heap.size w w'
theorem parseRet_err {t : TypeId} {w w' : World} {l : List UInt8} {c : Nat} (h : pcode l = c) (hc : c ≠ 0) (hb : Below w.heap.size w w') : ParseRet t w l (.returned (.tuple #[.slice none 0 0, .int .i64 (c : Int)])) w' :=
  ⟨fun _ => by rw [h], fun h0 => absurd (h.symm.trans h0) hc, hb⟩
theorem parseRet_ok {t : TypeId} {w w' : World} {l : List UInt8} {v : Value} (h : pcode l = 0) (ho : Own .u64 t w' w.heap.size v (cn Q (dval l))) (hb : Below w.heap.size w w') : ParseRet t w l (.returned (.tuple #[v, .int .i64 0])) w' :=
  ⟨fun h0 => absurd h h0, fun _ => ⟨v, rfl, ho⟩, hb⟩

theorem parse_empty (w : World) : Calls Tryz.prog 71 #[.string ByteArray.empty] w (ParseRet 65 w []) := by
  have fin := parseRet_err (t := 65) (w := w) (w' := w) (l := []) (c := 5) (by simp [pcode]) (by omega) (Below.refl _ _)
  go_enter Tryz.func71, Tryz.ntmps71
  go_wp2_with fail
  go_ret2
  exact fin

def PRel (w : World) (n : Nat) (l : List UInt8) (v iv : Value) (wr : World) : Prop :=
  ∃ k : Nat, k ≤ n ∧ iv = .int .i64 (k : Int) ∧ Own .u64 65 wr w.heap.size v (cn Q (dval (l.take k))) ∧ Below w.heap.size w wr

theorem toList_data (s : ByteArray) : s.toList = s.data.toList := Lib.toList_data s

set_option maxHeartbeats 1000000 in
theorem parse_some (s : ByteArray) (w : World) (hs : s.size ≤ 9223372036854775807) (h0 : s.toList.isEmpty = false) : Calls Tryz.prog 71 #[.string s] w (ParseRet 65 w s.data.toList) := by
  have ht := Tryz.strings_Trim_digits s w hs
  have hte := trim_empty s.data.toList
  have hne : s.data.toList ≠ [] := by
    intro h
    rw [toList_data, h] at h0
    simp at h0
  have hlen : s.data.toList.length = s.size := by rw [Array.length_toList]; rfl
  generalize (Lib.trimS s.data.toList [48, 49, 50, 51, 52, 53, 54, 55, 56, 57]) = tr at *
  by_cases hd : allDig s.data.toList = true
  · have k1 : (!tr.isEmpty) = false := by rw [hte, hd]; rfl
    clear hte
    by_cases hl : 200 < s.size
    · have fin := fun w1 => parseRet_err (t := 65) (w := w) (w' := w1) (l := s.data.toList) (c := 1) (by unfold pcode; rw [if_neg (by simp [hne, hd]), if_pos (by omega)]) (by omega)
      clear hne hd hlen
      go_enter Tryz.func71, Tryz.ntmps71
      go_wp2_with (go_at_call 89; refine ht.mono ?_; rintro e w1 ⟨rfl, hb1⟩; have fin1 := fin w1 hb1)
      go_ret2
      exact fin1
    · have hp : pcode s.data.toList = 0 := by unfold pcode; rw [if_neg (by simp [hne, hd]), if_neg (by omega)]
      have st : ∀ w1, Below w.heap.size w w1 → PRel w s.size s.data.toList (.slice none 0 0) (.int .i64 0) w1 := fun w1 hb => ⟨0, Nat.zero_le _, rfl, by simp [dval, cn_zero]; exact Own.nil, hb⟩
      have Hd := hide hd
      have Hp := hide hp
      have Hlen := hide hlen
      clear hne hd hp hlen
      go_enter Tryz.func71, Tryz.ntmps71
      go_wp2_with (go_at_call 89; refine ht.mono ?_; rintro e w1 ⟨rfl, hb1⟩; have st1 := st w1 hb1)
      go_loopw [4, 18] (fun v iv wr => PRel w s.size s.data.toList v iv wr) (fun _ iv _ => s.size - (intOf iv).toNat)
      case atStart => exact st1
      case round =>
        obtain ⟨k, hk, rfl, hown, hbel⟩ := hrel
        clear st st1 ht hb1 k1 h0
        by_cases hlt : k < s.size
        · have hkl : k < s.data.toList.length := by rw [Hlen.out]; exact hlt
          have hbd := allDig_mem Hd.out (List.getElem_mem hkl)
          obtain ⟨d, hd⟩ : ∃ d, d = (s.data.toList[k]'hkl).toNat - 48 := ⟨_, rfl⟩
          have hsk : (s[k]'hlt).toNat = d + 48 := by
            have : s[k]'hlt = s.data.toList[k]'hkl := rfl
            rw [this]; omega
          have hd9 : d ≤ 9 := by omega
          have hcl : (cn Q (dval (s.data.toList.take k))).length ≤ 17592186044000 := by
            have h1 := dval_take_lt s.data.toList Hd.out k
            have h2 : 10 ^ k ≤ Q ^ k := Nat.pow_le_pow_left (by unfold Q; omega) k
            have := cn_length_le Q_two (Nat.lt_of_lt_of_le h1 h2)
            omega
          have had : ∀ v, Own .u64 65 wr w.heap.size v (cn Q (dval (s.data.toList.take k))) → Calls Tryz.prog 90 #[v, .int .u64 (d : Int)] wr (fun e w' => ∃ v', e = .returned v' ∧ PRel w s.size s.data.toList v' (.int .i64 ((k + 1 : Nat) : Int)) w') := by
            intro v ho
            refine (appendDigit_own w.heap.size _ d v wr ho (by omega) hbel.size hcl).mono fun e w' ⟨v', he, ho', hb'⟩ => ⟨v', he, k + 1, by omega, rfl, ?_, hbel.trans hb'⟩
            rw [List.take_succ_eq_append_getElem hkl, dval_snoc, ← hd]
            exact ho'
          have had2 := had _ hown
          clear had hd hbd hcl hown hbel hkl Hd Hp Hlen
          go_wp2_with (go_at_call 90; refine had2.mono ?_; rintro e w2 ⟨v2, rfl, hrel2⟩)
          go_roundw
          case rel => exact hrel2
          case measure => simp [intOf]; omega
        · obtain rfl : k = s.size := by omega
          rw [List.take_of_length_le (by rw [Hlen.out]; exact Nat.le_refl _)] at hown
          have fin := parseRet_ok Hp.out hown hbel
          clear hown hbel Hd Hp Hlen
          go_wp2_with fail
          go_ret2
          exact fin
  · have k1 : (!tr.isEmpty) = true := by rw [hte]; simpa using hd
    have fin := fun w1 => parseRet_err (t := 65) (w := w) (w' := w1) (l := s.data.toList) (c := 5) (by unfold pcode; rw [if_pos (Or.inr (by simpa using hd))]) (by omega)
    clear hte hne hd hlen
    go_enter Tryz.func71, Tryz.ntmps71
    go_wp2_with (go_at_call 89; refine ht.mono ?_; rintro e w1 ⟨rfl, hb1⟩; have fin1 := fin w1 hb1)
    go_ret2
    exact fin1

theorem parse_any (s : ByteArray) (w : World) (hs : s.size ≤ 9223372036854775807) : Calls Tryz.prog 71 #[.string s] w (ParseRet 65 w s.data.toList) := by
  by_cases h : s.toList.isEmpty = false
  · exact parse_some s w hs h
  · have h1 : s.data.toList = [] := by
      rw [toList_data] at h
      cases hl : s.data.toList with
      | nil => rfl
      | cons a l => rw [hl] at h; simp at h
    have h2 : s = ByteArray.empty := by
      cases s with
      | mk d =>
        have : d = #[] := by cases d; simp_all
        subst this; rfl
    subst h2
    exact parse_empty w
end Go.Proofs.YtajjpepjbflojaaGreatDoor

/-
  nat.Text: a number's decimal digits.
-/

namespace Go.Proofs.YtajjpepjbflojaaGreatDoor
open Go.RowKit Go.Proofs.YtajjpepjbflojaaGreatDoor.Num
set_option linter.unusedVariables false
set_option maxRecDepth 100000

theorem info_u8 : (Tryz.prog.info? 5).map (fun i => (i.zero, i.size, i.bytes)) = some (some (.int .u8 0), 1, 1) := by kernel_rfl

/-! ### Turned about -/
/-- The first i and the last i have changed places. -/
def Rv (n i : Nat) (zs us : List Nat) : Prop := us.length = n ∧ ∀ t, t < n → us.getD t 0 = if t < i ∨ n ≤ t + i then zs.getD (n - 1 - t) 0 else zs.getD t 0
theorem rv_start (n : Nat) (zs : List Nat) (h : zs.length = n) : Rv n 0 zs zs := ⟨h, fun t ht => by rw [if_neg (by omega)]⟩
theorem getD_set (us : List Nat) (i t x : Nat) (hi : i < us.length) : (us.set i x).getD t 0 = if t = i then x else us.getD t 0 := by
  simp only [List.getD_eq_getElem?_getD, List.getElem?_set]
  by_cases h : i = t
  · subst h; simp [hi]
  · rw [if_neg h, if_neg (Ne.symm h)]
theorem rv_step {n i j : Nat} {zs us : List Nat} (h : Rv n i zs us) (hj : j + i = n - 1) (hlt : i < j) : Rv n (i + 1) zs ((us.set i (us.getD j 0)).set j (us.getD i 0)) := by
  obtain ⟨hl, hp⟩ := h
  refine ⟨by simp [hl], fun t ht => ?_⟩
  rw [getD_set _ j t _ (by simp; omega), getD_set _ i t _ (by omega)]
  by_cases h1 : t = j
  · subst h1
    rw [if_pos rfl, hp i (by omega), if_neg (by omega), if_pos (by omega)]
    congr 1; omega
  · rw [if_neg h1]
    by_cases h2 : t = i
    · subst h2
      rw [if_pos rfl, hp j (by omega), if_neg (by omega), if_pos (by omega)]
      congr 1; omega
    · rw [if_neg h2, hp t ht]
      by_cases h3 : t < i ∨ n ≤ t + i
      · rw [if_pos h3, if_pos (by omega)]
      · rw [if_neg h3, if_neg (by omega)]
theorem rv_end {n i : Nat} {zs us : List Nat} (hz : zs.length = n) (h : Rv n i zs us) (he : n ≤ 2 * i + 1) : us = zs.reverse := by
  apply List.ext_getElem?
  intro t
  rcases Nat.lt_or_ge t n with ht | ht
  · have h1 := h.2 t ht
    have h2 : us.getD t 0 = zs.getD (n - 1 - t) 0 := by
      rw [h1]
      by_cases h3 : t < i ∨ n ≤ t + i
      · rw [if_pos h3]
      · rw [if_neg h3]; congr 1; omega
    rw [List.getElem?_reverse (by omega), List.getElem?_eq_getElem (by have := h.1; omega), List.getElem?_eq_getElem (by omega)]
    simp only [List.getD_eq_getElem?_getD] at h2
    rw [List.getElem?_eq_getElem (by have := h.1; omega), List.getElem?_eq_getElem (by omega)] at h2
    simp at h2
    rw [h2]
    congr 2; omega
  · rw [List.getElem?_eq_none (by have := h.1; omega), List.getElem?_eq_none (by rw [List.length_reverse]; omega)]

def RvRel (w : World) (g n : Nat) (C : Array Value) (zs : List Nat) (iv jv : Value) (wr : World) : Prop :=
  ∃ (i : Nat) (us : List Nat), iv = .int .i64 (i : Int) ∧ jv = .int .i64 ((n : Int) - 1 - (i : Int)) ∧ i ≤ n ∧ Hid (Rv n i zs us) ∧ Row .u8 5 wr g 0 C us ∧ w.grownBy wr (some g)

set_option maxHeartbeats 4000000 in
theorem reverse_row (g n c : Nat) (C : Array Value) (zs : List Nat) (w : World) (hr : Row .u8 5 w g 0 C zs) (hzn : zs.length = n) (hn : n ≤ 9223372036854775807) :
    Calls Tryz.prog 38 #[.slice (some ⟨g, 0, none⟩) n c] w fun e w' => e = .returned (.tuple #[]) ∧ Row .u8 5 w' g 0 C zs.reverse ∧ w.grownBy w' (some g) := by
  have st : RvRel w g n C zs (.int .i64 0) (.int .i64 ((n : Int) - 1)) w := ⟨0, zs, rfl, by simp, Nat.zero_le _, hide (rv_start n zs hzn), hr, only_refl _ _⟩
  have Hz := hide hzn
  clear hzn hr
  go_enter Tryz.func38, Tryz.ntmps38
  go_wp2_with fail
  go_loopw [2, 3] (fun iv jv wr => RvRel w g n C zs iv jv wr) (fun iv _ _ => n - (intOf iv).toNat)
  case atStart => exact st
  case round =>
    obtain ⟨i, us, rfl, rfl, hi, hrv, hrow, hg⟩ := hrel
    clear st
    by_cases hlt : 2 * i + 1 < n
    · obtain ⟨j, hj⟩ : ∃ j, j = n - 1 - i := ⟨_, rfl⟩
      have ej : ((n : Int) - 1 - (i : Int)) = (j : Int) := by omega
      rw [ej]
      have hl := hrv.out.1
      have hij : (i : Int) < (j : Int) := by omega
      have hij' : i < j := by omega
      have hjn : (j : Int) < (n : Int) := by omega
      have hs := rv_step hrv.out (by omega) hij'
      have hci := hrow.cell (j := i) (by omega)
      have hcj := hrow.cell (j := j) (by omega)
      have hfi := hrow.frozen i
      have hfj := hrow.frozen j
      have h1 := hrow.set_ (j := i) (by omega) (us.getD j 0)
      have h2 := h1.set_ (j := j) (by simp; omega) (us.getD i 0)
      rw [Nat.zero_add] at hci hcj
      rw [Nat.zero_add, Nat.zero_add] at h2
      obtain ⟨x, hx⟩ : ∃ x, us.getD i 0 = x := ⟨_, rfl⟩
      obtain ⟨y, hy⟩ : ∃ y, us.getD j 0 = y := ⟨_, rfl⟩
      rw [hx, hy] at hs h2
      rw [hx] at hci
      rw [hy] at hcj
      have hg2 := only_set (p := ⟨g, j, none⟩) (only_set (p := ⟨g, i, none⟩) hg rfl (.int .u8 (y : Int))) rfl (.int .u8 (x : Int))
      have ej2 : (j : Int) - 1 = (n : Int) - 1 - ((i + 1 : Nat) : Int) := by omega
      have fin : RvRel w g n C zs (.int .i64 ((i + 1 : Nat) : Int)) (.int .i64 ((j : Int) - 1)) (((wr.setCell ⟨g, i, none⟩ (.int .u8 (y : Int))).setCell ⟨g, j, none⟩ (.int .u8 (x : Int))).drew) :=
        ⟨i + 1, _, rfl, by rw [ej2], by omega, hide hs, h2.drew, only_drew hg2⟩
      clear hs h1 h2 hg2 hx hy ej ej2 hl hrow hg hrv hj Hz
      go_wp2_with fail
      go_region
      all_goals go_wp2_with fail
      all_goals go_roundw
      case rel => exact fin
      case measure => simp [intOf]; omega
    · have e := rv_end Hz.out hrv.out (by omega)
      rw [e] at hrow
      have hij : ¬ ((i : Int) < (n : Int) - 1 - (i : Int)) := by omega
      clear e hrv Hz
      go_wp2_with fail
      go_end0
      exact ⟨rfl, hrow, hg⟩

/-! ### The digits -/
def dch (ds : List Nat) : List Nat := ds.map (· + 48)
def dtext (n : Nat) : List UInt8 := if n = 0 then [48] else ((cn 10 n).map fun d => UInt8.ofNat (d + 48)).reverse
def TextRet (w : World) (n : Nat) (e : Ending) (w' : World) : Prop := e = .returned (.string ⟨(dtext n).toArray⟩) ∧ Below w.heap.size w w'

/-- Blocks of two element types are two. -/
theorem own_ne {k1 k2 : IntKind} {e1 e2 : TypeId} {w : World} {B1 B2 : Nat} {v1 v2 : Value} {xs ys : List Nat} (h1 : Own k1 e1 w B1 v1 xs) (h2 : Own k2 e2 w B2 v2 ys) (he : e1 ≠ e2) :
    ∀ g, v1.ownBlock = some g → v2.ownBlock ≠ some g := by
  intro g hg hg'
  rcases h1 with ⟨rfl, _⟩ | ⟨g1, c1, C1, rfl, _, ⟨cs1, hh1, _⟩, _⟩
  · cases hg
  · rcases h2 with ⟨rfl, _⟩ | ⟨g2, c2, C2, rfl, _, ⟨cs2, hh2, _⟩, _⟩
    · cases hg'
    · simp [Value.ownBlock] at hg hg'
      subst hg; subst hg'
      rw [hh1] at hh2
      injection hh2 with hh2
      injection hh2 with _ ht
      exact he ht
theorem Own.keepOff {k : IntKind} {e : TypeId} {w w' : World} {B : Nat} {v : Value} {xs : List Nat} (h : Own k e w B v xs) {row : Option Nat} (hg : w.grownBy w' row) (hne : ∀ g, v.ownBlock = some g → row ≠ some g) : Own k e w' B v xs := by
  refine h.grown hg ?_
  cases hv : v.ownBlock with
  | none => exact .inl rfl
  | some g => exact .inr (fun h' => hne g hv h'.symm)

/-- Outer loop: digits that stand, and the number that is left (at most the ghost). -/
def TRel (w : World) (n gh : Nat) (dv rv : Value) (wr : World) : Prop :=
  ∃ (R : Nat) (ds : List Nat), R ≤ gh ∧ Own .u8 5 wr w.heap.size dv (dch ds) ∧ Own .u64 65 wr w.heap.size rv (cn Q R) ∧ Dg 10 ds ∧ Hid (vl 10 ds + 10 ^ ds.length * R = n) ∧ Below w.heap.size w wr
/-- Inner loop. -/
def IRel (w : World) (grp : Nat) (ds us : List Nat) (rv dv gv iv : Value) (wr : World) : Prop :=
  ∃ (k gk : Nat) (es : List Nat), k ≤ 19 ∧ iv = .int .i64 (k : Int) ∧ gv = .int .u64 (gk : Int) ∧ gk < Q ∧ Own .u8 5 wr w.heap.size dv (dch (ds ++ es)) ∧ Own .u64 65 wr w.heap.size rv us ∧
    es.length = k ∧ Dg 10 es ∧ Hid (vl 10 es + 10 ^ k * gk = grp) ∧ Below w.heap.size w wr

theorem len_bound {n nn : Nat} (h : n < Q ^ nn) {ds : List Nat} {R : Nat} (e : vl 10 ds + 10 ^ ds.length * R = n) (hR : R ≠ 0) : ds.length ≤ 20 * nn := by
  have h1 : 10 ^ ds.length * 1 ≤ 10 ^ ds.length * R := Nat.mul_le_mul_left _ (by omega)
  have h2 : Q ^ nn ≤ (10 ^ 20) ^ nn := Nat.pow_le_pow_left (by unfold Q; omega) nn
  rw [← Nat.pow_mul] at h2
  have h3 : 10 ^ ds.length < 10 ^ (20 * nn) := by omega
  have := (Nat.pow_lt_pow_iff_right (by omega : 1 < 10)).1 h3
  omega

theorem dch_append (ds es : List Nat) : dch (ds ++ es) = dch ds ++ dch es := by unfold dch; simp
theorem dch_len (ds : List Nat) : (dch ds).length = ds.length := by unfold dch; simp
theorem dch_take (ds : List Nat) (k : Nat) : dch (ds.take k) = (dch ds).take k := by unfold dch; simp [List.map_take]

/-- What TrimRight finds. -/
theorem is48 (d : Nat) (h : d < 10) : ([48] : List UInt8).contains (UInt8.ofNat (d + 48)) = decide (d = 0) := by
  have : ∀ e : Fin 10, ([48] : List UInt8).contains (UInt8.ofNat (e.val + 48)) = decide (e.val = 0) := by decide
  exact this ⟨d, h⟩
theorem trimR_snoc (l : List UInt8) (b : UInt8) : Lib.trimRightS (l ++ [b]) [48] = if ([48] : List UInt8).contains b = true then Lib.trimRightS l [48] else l ++ [b] := by
  unfold Lib.trimRightS
  rw [List.reverse_append]
  simp only [List.reverse_cons, List.reverse_nil, List.nil_append, List.singleton_append, List.dropWhile_cons]
  split
  · rfl
  · simp
theorem tz_snoc (ds : List Nat) (d : Nat) : tz (ds ++ [d]) = if d = 0 then tz ds else ds ++ [d] := by
  split
  · rename_i h; rw [h, tz_append_zero]
  · rename_i h; exact tz_append_pos _ h
theorem bytes_dch (ds : List Nat) : Lib.bytesOf ((dch ds).map fun n : Nat => (n : Int)) = ds.map fun d => UInt8.ofNat (d + 48) := by
  unfold Lib.bytesOf dch
  rw [List.map_map, List.map_map]
  rfl
theorem trim_digits_aux : ∀ (n : Nat) (ds : List Nat), ds.length = n → Dg 10 ds → (Lib.trimRightS (ds.map fun d => UInt8.ofNat (d + 48)) [48]).length = (tz ds).length := by
  intro n
  induction n with
  | zero => intro ds h _; rw [List.eq_nil_of_length_eq_zero h]; rfl
  | succ n ih =>
    intro ds h hd
    obtain ⟨es, d, rfl⟩ : ∃ es d, ds = es ++ [d] := by
      have hne : ds ≠ [] := by intro h'; rw [h'] at h; simp at h
      exact ⟨ds.dropLast, ds.getLast hne, (List.dropLast_concat_getLast hne).symm⟩
    rw [List.map_append, List.map_cons, List.map_nil, trimR_snoc, is48 d (hd.right d (by simp)), tz_snoc]
    by_cases h0 : d = 0
    · rw [if_pos (by simpa using h0), if_pos h0]
      exact ih es (by simpa using h) hd.left
    · rw [if_neg (by simpa using h0), if_neg h0]; simp
theorem trim_digits (ds : List Nat) (h : Dg 10 ds) : (Lib.trimRightS (Lib.bytesOf ((dch ds).map fun n : Nat => (n : Int))) [48]).length = (tz ds).length := by
  rw [bytes_dch]
  exact trim_digits_aux _ ds rfl h
theorem text_str {ds : List Nat} {n : Nat} (dd : Dg 10 ds) (hv : vl 10 ds = n) (hp : tz ds ≠ []) : strOfNums (((dch (tz ds)).reverse).map fun n : Nat => (n : Int)) = ⟨(dtext n).toArray⟩ := by
  have h1 : cn 10 n = tz ds := by rw [← hv, cn_vl (by omega) dd]
  have h2 : n ≠ 0 := by
    intro h
    rw [h, cn_zero] at h1
    exact hp h1.symm
  unfold strOfNums dtext
  rw [if_neg h2, h1]
  unfold dch
  rw [← List.map_reverse, ← List.map_reverse, List.map_map, List.map_map]
  rfl

theorem quo10 (g : Nat) : (g : Int) / 10 = ((g / 10 : Nat) : Int) := by omega
theorem rem10 (g : Nat) : (g : Int) % 10 = ((g % 10 : Nat) : Int) := by omega

set_option maxHeartbeats 4000000 in
theorem text_any (A : Option Addr) (nn c : Nat) (xs : List Nat) (w : World) (hx : Rd .u64 w w.heap.size A nn xs) (dx : Dg Q xs) (hnc : nn ≤ c) (hc : c ≤ maxLen) (hn : nn ≤ 1000000000) :
    Calls Tryz.prog 19 #[.slice A nn c] w (TextRet w (vl Q xs)) := by
  have htr := trim_any A nn c xs w hx dx hnc hc (by omega)
  have hlb : ∀ (ds : List Nat) (R : Nat), vl 10 ds + 10 ^ ds.length * R = vl Q xs → R ≠ 0 → ds.length ≤ 20000000000 := by
    intro ds R e hR
    have h := len_bound (by have := vl_lt dx; rwa [hx.1] at this) e hR
    omega
  generalize vl Q xs = n at *
  obtain ⟨i0, hi, hz0, hz1, hz2⟩ := info_parts info_u8
  have st : ∀ v w1, Own .u64 65 w1 w.heap.size v (cn Q n) → Below w.heap.size w w1 → TRel w n n (.slice none 0 0) v w1 := fun v w1 ho hb => ⟨n, [], Nat.le_refl _, Own.nil, ho, Dg.nil, hide (by simp [vl]), hb⟩
  have Hlb := hide hlb
  clear hx dx hnc hc hn hlb
  go_enter Tryz.func19, Tryz.ntmps19
  go_wp2_with (go_at_call 34; refine htr.mono ?_; rintro e w1 ⟨v, rfl, ho, hb⟩; have st1 := st v w1 ho hb; clear ho hb)
  go_loopg [3, 4] n (fun gh dv rv wr => TRel w n gh dv rv wr)
  case atStart => exact st1
  case round =>
    obtain ⟨R, ds, hRg, od, orr, dd, hv, hbel⟩ := hrel
    clear st st1 htr
    obtain ⟨PR, cR, hR1, hl1, hl2, _, _⟩ := orr.form
    subst hR1
    by_cases h0 : R = 0
    · subst h0
      have hvn := hv.out
      rw [Nat.mul_zero, Nat.add_zero] at hvn
      have htl := trim_digits ds dd
      rw [cn_zero, List.length_nil]
      rcases od with ⟨rfl, he⟩ | ⟨g, cap, C, rfl, hB, hr, hC, hcm⟩
      · have hds : ds = [] := by
          unfold dch at he
          exact List.map_eq_nil_iff.1 he
        subst hds
        have hn0 : n = 0 := by rw [← hvn]; rfl
        have htrim := Tryz.bytes_TrimRight_0 none 0 0 [] wr rfl (Nat.le_refl _) (by omega) (Lib.BytesIn.nil _ _ _) (fun x hx => by cases hx)
        simp only [Lib.bytesOf, List.map_nil, Lib.trimRightS_nil, List.length_nil] at htrim
        have fin : ∀ w2, Below wr.heap.size wr w2 → TextRet w n (.returned (.string ⟨#[48]⟩)) w2 := fun w2 hb => ⟨by rw [hn0]; rfl, hbel.trans (hb.mono hbel.size)⟩
        clear hv hvn htl dd orr hl1 hl2 hbel he Hlb hn0 hRg
        go_wp2_with (go_at_call 37; refine htrim.mono ?_; rintro e w2 ⟨rfl, hb2⟩; have fin2 := fin w2 hb2)
        go_ret
        exact fin2
      · obtain ⟨cs, _, _, hlc, _⟩ := id hr
        have hcm2 : cap ≤ 9223372036854775807 := by unfold maxLen at hcm; omega
        have htrim := Tryz.bytes_TrimRight_0 (some ⟨g, 0, none⟩) (dch ds).length cap ((dch ds).map fun n : Nat => (n : Int)) wr (by simp) (by omega) hcm2
          (fun _ => ⟨g, 0, rfl, fun i hi => by
            rw [hr.cell hi]
            simp [List.getD_eq_getElem?_getD, hi]⟩)
          (fun x hx => by
            simp only [List.mem_map] at hx
            obtain ⟨a, ha, rfl⟩ := hx
            unfold dch at ha
            obtain ⟨b, hb, rfl⟩ := List.mem_map.1 ha
            have := dd b hb
            omega)
        rw [htl] at htrim
        by_cases hz : tz ds = []
        · have hn0 : n = 0 := by rw [← hvn, ← tz_vl, hz]; rfl
          rw [hz, List.length_nil] at htrim
          have fin : ∀ w2, Below wr.heap.size wr w2 → TextRet w n (.returned (.string ⟨#[48]⟩)) w2 := fun w2 hb => ⟨by rw [hn0]; rfl, hbel.trans (hb.mono hbel.size)⟩
          generalize (dch ds).length = L at *
          clear hv hvn htl dd orr hl1 hl2 hbel Hlb hn0 hRg hr hz
          go_wp2_with (go_at_call 37; refine htrim.mono ?_; rintro e w2 ⟨rfl, hb2⟩; have fin2 := fin w2 hb2)
          go_ret
          exact fin2
        · have hml := tz_length_le ds
          have hlt := hr.lt
          have hmp : (tz ds).length ≠ 0 := fun h => hz (List.eq_nil_of_length_eq_zero h)
          have hrev : ∀ w2, Below wr.heap.size wr w2 → Calls Tryz.prog 38 #[.slice (some ⟨g, 0, none⟩) (tz ds).length cap] w2 (fun e w3 => e = .returned (.tuple #[]) ∧
              (convert 44 9 (.slice (some ⟨g, 0, none⟩) (tz ds).length cap)).run Tryz.prog w3 = .ok (.string ⟨(dtext n).toArray⟩) w3 ∧ Below w.heap.size w w3) := by
            intro w2 hb
            obtain ⟨C', hC', hr'⟩ := (hr.below hb hlt).first (m := (tz ds).length) (by rw [dch_len]; exact hml)
            rw [← dch_take, ← tz_take] at hr'
            refine (reverse_row g _ cap C' _ w2 hr' (dch_len _) (by rw [dch_len] at hlc; omega)).mono fun e w3 ⟨he, hrow, hg⟩ => ⟨he, ?_, below_only (hbel.trans (hb.mono hbel.size)) hg (Nat.le_trans hbel.size hb.size) hB⟩
            rw [← text_str dd hvn hz]
            refine run_convert_bytes_arg (P := Tryz.prog) w3 44 5 Tryz.underlying44 Tryz.underlying5 g 0 _ cap _ (by simp [dch_len]) (fun i hi => ?_) 9 Tryz.underlying9
            rw [hrow.cell (by rw [List.length_reverse, dch_len]; exact hi)]
            have hi2 : i < (dch (tz ds)).length := by rw [dch_len]; exact hi
            simp [List.getD_eq_getElem?_getD, hi2]
          have b0 : (((tz ds).length : Int) == 0) = false := beq_eq_false_iff_ne.2 (by omega)
          have hmI : (0 : Int) < ((tz ds).length : Int) := by omega
          generalize (dch ds).length = L at *
          generalize (tz ds).length = m at *
          clear hv hvn htl dd orr hl1 hl2 hbel Hlb hRg hr hz hml hlt hlc hmp
          go_wp2_with (first
            | (go_at_call 37; refine htrim.mono ?_; rintro e w2 ⟨rfl, hb2⟩; have hrev2 := hrev w2 hb2)
            | (go_at_call 38; refine hrev2.mono ?_; rintro e w3 ⟨rfl, hconv, hb3⟩))
          go_ret
          exact ⟨rfl, hb3⟩
    · have hne : (cn Q R).length ≠ 0 := fun h => h0 ((cn_eq_nil Q_two).1 (List.eq_nil_of_length_eq_zero h))
      have hdl := Hlb.out ds R hv.out h0
      have hdw := divWord_own w.heap.size 10000000000000000000 (.slice PR (cn Q R).length cR) _ wr orr (dg_cn Q_two R) (by omega) (by unfold Q; omega)
      rw [vl_cn Q_two] at hdw
      have hdw : Calls Tryz.prog 36 #[.slice PR (cn Q R).length cR, .int .u64 10000000000000000000] wr (fun e w2 => ∃ us : List Nat, e = .returned (.int .u64 ((R % 10000000000000000000 : Nat) : Int)) ∧ Dg Q us ∧ vl Q us = R / 10000000000000000000 ∧
          Own .u64 65 w2 w.heap.size (.slice PR (cn Q R).length cR) us ∧ wr.grownBy w2 (Value.slice PR (cn Q R).length cR).ownBlock) :=
        hdw.mono fun e w2 ⟨us, he, _, dus, hus, ho, hg⟩ => ⟨us, he, dus, hus, ho, hg⟩
      have hst2 : ∀ us w2, wr.grownBy w2 (Value.slice PR (cn Q R).length cR).ownBlock → Own .u64 65 w2 w.heap.size (.slice PR (cn Q R).length cR) us → IRel w (R % 10000000000000000000) ds us (.slice PR (cn Q R).length cR) u3 (.int .u64 ((R % 10000000000000000000 : Nat) : Int)) (.int .i64 0) w2 := by
        intro us w2 hg ho
        refine ⟨0, R % 10000000000000000000, [], by omega, rfl, rfl, ?_, ?_, ho, rfl, Dg.nil, hide (by simp [vl]), push_below hbel orr hg hbel.size⟩
        · have := Nat.mod_lt R (show 10000000000000000000 > 0 by omega)
          unfold Q; omega
        · rw [List.append_nil]
          exact od.keepOff hg (own_ne od orr (by decide))
      have hgb : R % 10000000000000000000 < 10 ^ 19 := Nat.mod_lt _ (by omega)
      have hsum : R / 10000000000000000000 * 10 ^ 19 + R % 10000000000000000000 = R := Nat.div_add_mod' _ _
      have hless : R / 10000000000000000000 < R := Nat.div_lt_self (by omega) (by omega)
      generalize R % 10000000000000000000 = grp at *
      generalize R / 10000000000000000000 = R' at *
      have hfinal : ∀ (us es : List Nat) (W : World) (dv v' : Value), vl Q us = R' → Dg Q us → es.length = 19 → Dg 10 es → vl 10 es = grp → Own .u8 5 W w.heap.size dv (dch (ds ++ es)) → Own .u64 65 W w.heap.size v' (tz us) → Below w.heap.size w W → TRel w n R' dv v' W := by
        intro us es W dv v' hus dus hel des hes hod hov hb
        rw [← cn_vl Q_two dus, hus] at hov
        refine ⟨R', ds ++ es, Nat.le_refl _, hod, hov, dd.append des, hide ?_, hb⟩
        rw [← hv.out, vl_append, hes, List.length_append, hel, Nat.pow_add, ← hsum, Nat.mul_add, Nat.mul_comm R' (10 ^ 19), ← Nat.mul_assoc]
        omega
      have Hgb := hide hgb
      have Hless := hide hless
      have hRg2 : R' < R := hless
      have hlI : (0 : Int) < ((cn Q R).length : Int) := by omega
      have Hor := hide orr
      generalize (cn Q R).length = lR at *
      clear hgb hless hsum hv dd od orr hl1 hl2 hne hbel h0
      go_wp2_with (go_at_call 36; refine hdw.mono ?_; rintro e w2 ⟨us, rfl, dus, hus, hou, hgr⟩; have st2 := hst2 us w2 hgr hou; clear hst2 hou hgr)
      go_loopw [3, 5, 15] (fun dv gv iv W => IRel w grp ds us (.slice PR lR cR) dv gv iv W) (fun _ _ iv _ => 19 - (intOf iv).toNat)
      case atStart => exact st2
      case round =>
        obtain ⟨k, gk, es, hk, rfl, rfl, hgq, hod, hor, hel, des, hev, hbl⟩ := hrel
        clear st2 hdw
        by_cases hlt : k < 19
        · obtain ⟨d, hd⟩ : ∃ d, Hid (gk % 10 = d) := ⟨_, hide rfl⟩
          obtain ⟨g2, hg2⟩ : ∃ g2, Hid (gk / 10 = g2) := ⟨_, hide rfl⟩
          have hd9 : d ≤ 9 := by rw [← hd.out]; omega
          have hsum2 : g2 * 10 + d = gk := by rw [← hd.out, ← hg2.out]; omega
          have e1 := rem10 gk
          have e2 := quo10 gk
          rw [hd.out] at e1
          rw [hg2.out] at e2
          obtain ⟨x, hx⟩ : ∃ x, x = d + 48 := ⟨_, rfl⟩
          have e3 : (d : Int) + 48 = (x : Int) := by omega
          have e4 : (48 : Int) + (d : Int) = (x : Int) := by omega
          have hx57 : (x : Int) ≤ 57 := by omega
          have hg2q : g2 < Q := by omega
          have hgI : (gk : Int) ≤ 18446744073709551615 := by unfold Q at hgq; omega
          have hxd : Hid (dch (ds ++ es) ++ [x] = dch (ds ++ (es ++ [d]))) := hide (by rw [← List.append_assoc, dch_append (ds ++ es), hx]; rfl)
          have hsz := hbl.size
          have fin : ∀ u v' w', Own .u8 5 wr w.heap.size u (dch (ds ++ es)) → Own .u8 5 w' w.heap.size v' (dch (ds ++ es) ++ [x]) → wr.grownBy w' u.ownBlock →
              IRel w grp ds us (.slice PR lR cR) v' (.int .u64 (g2 : Int)) (.int .i64 ((k + 1 : Nat) : Int)) w' := by
            intro u v' w' ou ov hg
            rw [hxd.out] at ov
            refine ⟨k + 1, g2, es ++ [d], by omega, rfl, rfl, hg2q, ov, hor.keepOff hg (own_ne hor ou (by decide)), by simp [hel], des.append (Dg.cons (by omega) Dg.nil), hide ?_, push_below hbl ou hg hsz⟩
            rw [vl_snoc, hel, Nat.pow_succ, ← hev.out, ← hsum2, Nat.mul_add, Nat.mul_assoc, Nat.mul_comm 10 g2]
            omega
          have Hlen : Hid ((dch (ds ++ es)).length + 1 ≤ 17592186044416) := hide (by rw [dch_len, List.length_append]; omega)
          have Hsz := hide hsz
          have Hod := hide hod
          clear hod hor hel des hev hbl hsz hd hg2 hsum2 hx hxd hg2q hgq hdl hus dus
          go_wp2_with (at_builtin; refine wpList_push rfl (.tmp 17) (.tmp 22) 44 rfl Tryz.underlying44 hi hz0 hz1 hz2 rfl wr w.heap.size _ (dch (ds ++ es)) x Hod.out rfl rfl Hlen.out (by decide) Hsz.out ?_; intro v' w' ho hg; have fin2 := fin _ v' w' Hod.out ho hg.1; clear fin ho hg)
          go_roundw
          case rel => exact fin2
          case measure => simp [intOf]; omega
        · obtain rfl : k = 19 := by omega
          have hgk : gk = 0 := by
            have h1 := hev.out
            have h2 := Hgb.out
            rcases Nat.eq_zero_or_pos gk with h | h
            · exact h
            · have : 10 ^ 19 * 1 ≤ 10 ^ 19 * gk := Nat.mul_le_mul_left _ h
              omega
          have hve : vl 10 es = grp := by
            have h1 := hev.out
            rw [hgk] at h1
            omega
          obtain ⟨v', ho3, hbl3, hcl⟩ := clip_own _ _ _ _ hor
          have fin := hfinal us es _ _ v' hus dus hel des hve hod ho3 hbl
          clear hod hor hel des hev hbl hgk hve ho3 hbl3 hfinal hus dus
          go_wp2_with (go_at_call 35; refine hcl.mono ?_; rintro e w' ⟨rfl, rfl⟩)
          go_roundg R'
          case rel => exact fin
          case measure => omega
end Go.Proofs.YtajjpepjbflojaaGreatDoor

/-
  The small functions of the document's own answer for layer 1: a place behind a list's end, noughts cut off, a small number's places.
-/

namespace Go.Proofs.YtajjpepjbflojaaGreatDoor
open Go.RowKit Go.Proofs.YtajjpepjbflojaaGreatDoor.Num
set_option linter.unusedVariables false
set_option maxRecDepth 100000

theorem place_any (B : Nat) (A : Option Addr) (n c i x : Nat) (xs : List Nat) (w : World) (h : Rd .i64 w B A n xs) (hn : n ≤ maxLen) (hx : Hid (xs.getD i 0 = x)) :
    Calls Tryz.prog 65 #[.slice A n c, .int .i64 (i : Int)] w fun e w' => e = .returned (.int .i64 (x : Int)) ∧ w = w' := by
  unfold maxLen at hn
  have hl := h.1
  by_cases h1 : i < n
  · obtain ⟨b, off, rfl, _, hc⟩ := h.at_ h1
    rw [hx.out] at hc
    clear h hx hl
    go_enter Tryz.func65, Tryz.ntmps65
    go_wp2
    go_ret
    exact ⟨rfl, rfl⟩
  · have e : x = 0 := by
      rw [← hx.out]; simp [List.getD_eq_getElem?_getD, List.getElem?_eq_none (show xs.length ≤ i by omega)]
    subst e
    clear h hl hx
    go_enter Tryz.func65, Tryz.ntmps65
    go_wp2
    go_ret
    exact ⟨rfl, rfl⟩

theorem info_int : (Tryz.prog.info? 3).map (fun i => (i.zero, i.size, i.bytes)) = some (some (.int .i64 0), 1, 8) := by kernel_rfl

set_option maxHeartbeats 1000000 in
theorem rtrim_any (A : Option Addr) (n c : Nat) (xs : List Nat) (w : World) (hx : Rd .i64 w w.heap.size A n xs) (hn : n ≤ 17592186044000) :
    Calls Tryz.prog 41 #[.slice A n c] w (OwnRet .i64 3 w (tz xs)) := by
  obtain ⟨i0, hi, hz0, hz1, hz2⟩ := info_parts info_int
  have hl := hx.1
  have h00 : Hid (tz (xs.take n) = tz xs) := hide (by rw [List.take_of_length_le (by omega)])
  have Hx := hide hx
  clear hl hx
  have hz : Hid (Rd .i64 w w.heap.size A (tz xs).length (tz xs)) := hide (by
    have h1 := Hx.out.first (m := (tz xs).length) (by have h2 := tz_length_le xs; have h3 := Hx.out.1; omega)
    rw [← tz_take] at h1
    exact h1)
  have hzn : Hid ((tz xs).length ≤ 17592186044000) := hide (by have h2 := tz_length_le xs; have h3 := Hx.out.1; omega)
  have hzn2 : Hid ((tz xs).length ≤ n) := hide (by have h2 := tz_length_le xs; have h3 := Hx.out.1; omega)
  go_enter Tryz.func41, Tryz.ntmps41
  go_upto_block 0 with fail
  go_cut [3] (fun v wx => v = .int .i64 (((tz xs).length : Nat) : Int) ∧ w = wx)
  case first =>
    clear hz hzn hzn2
    go_wp2_with fail
    go_loop [3] (fun v => ∃ k : Nat, k ≤ n ∧ v = .int .i64 k ∧ Hid (tz (xs.take k) = tz xs)) (fun v => (intOf v).toNat)
    case atStart => exact ⟨n, Nat.le_refl _, rfl, h00⟩
    case round =>
      obtain ⟨k, hk, rfl, ht⟩ := hrel
      by_cases h0 : k = 0
      · subst h0
        go_wp2_with fail
        go_meet
        have e := ht.out
        rw [List.take_zero] at e
        exact ⟨by rw [← e]; rfl, rfl⟩
      · obtain ⟨m, rfl⟩ : ∃ m, k = m + 1 := ⟨k - 1, by omega⟩
        have h := Hx.out
        obtain ⟨b, off, rfl, _, hcell⟩ := h.at_ (show m < n by omega)
        have hm : m < xs.length := by have := h.1; omega
        by_cases hx : xs.getD m 0 = 0
        · have e2 : Hid (tz (xs.take m) = tz xs) := hide (by rw [← tz_step_zero xs m hm hx]; exact ht.out)
          rw [hx] at hcell
          clear h hm hx h0
          go_wp2_with fail
          go_round
          case rel => exact ⟨m, by omega, rfl, e2⟩
          case measure => simp [intOf]
        · have e2 : Hid ((tz xs).length = m + 1) := hide (by rw [← ht.out]; exact tz_step_pos xs m hm hx)
          obtain ⟨x, hxx⟩ : ∃ x, xs.getD m 0 = x := ⟨_, rfl⟩
          rw [hxx] at hcell hx
          have hb : (((x : Int) == 0)) = false := beq_eq_false_iff_ne.2 (by omega)
          clear h hm hxx h0
          go_wp2_with fail
          go_meet
          exact ⟨by rw [e2.out]; rfl, rfl⟩
  case rest =>
    obtain ⟨rfl, rfl⟩ := hcut
    clear h00 Hx
    generalize tz xs = zs at *
    clear xs
    obtain ⟨m, hm⟩ : ∃ m, zs.length = m := ⟨_, rfl⟩
    rw [hm] at hz hzn hzn2 ⊢
    have hmn := hzn.out
    have hmle := hzn2.out
    clear hzn hzn2
    go_wp2_with fail
    go_loopw [4, 5] (fun v iv wr => CopyRel .i64 3 w m zs v iv wr) (fun _ iv _ => m - (intOf iv).toNat)
    case atStart => exact ⟨0, Nat.zero_le _, rfl, by simpa using own_empty .i64 3 w w.heap.size (Nat.le_refl _), (Below.refl _ _).alloc (Nat.le_refl _) _⟩
    case round =>
      obtain ⟨k, hk, rfl, hown, hbel⟩ := hrel
      by_cases hlt : k < m
      · have hkn : k < n := by omega
        obtain ⟨x, ex⟩ : ∃ x, Hid (zs.getD k 0 = x) := ⟨_, hide rfl⟩
        have hx2 := hz.out.below hbel (Nat.le_refl _)
        obtain ⟨b, o, rfl, hbb, hc⟩ := hx2.at_ hlt
        rw [ex.out] at hc
        have ht := hide (take_push zs (by rw [hm]; exact hlt) ex.out)
        have hsz := hbel.size
        have hlen : (zs.take k).length + 1 ≤ 17592186044416 := by rw [List.length_take]; omega
        have fin : ∀ u v' w', Own .i64 3 wr w.heap.size u (zs.take k) → Own .i64 3 w' w.heap.size v' (zs.take k ++ [x]) → wr.grownBy w' u.ownBlock → CopyRel .i64 3 w m zs v' (.int .i64 ((k + 1 : Nat) : Int)) w' := by
          intro u v' w' hu ho hg
          rw [ht.out] at ho
          exact ⟨k + 1, by omega, rfl, ho, push_below hbel hu hg hsz⟩
        have Hown := hide hown
        have Hsz := hide hsz
        have Hlen := hide hlen
        clear hz hx2 hown hbel ht ex hsz hlen hbb
        go_wp2_with (at_builtin; go_must (refine wpList_push rfl (.tmp 26) (.tmp 31) 32 rfl Tryz.underlying32 hi hz0 hz1 hz2 rfl wr w.heap.size _ (zs.take k) x Hown.out rfl rfl Hlen.out (by decide) Hsz.out ?_); intro v' w' ho hg; have fin2 := fin _ v' w' Hown.out ho hg.1; clear fin ho hg)
        go_roundw
        case rel => exact fin2
        case measure => simp [intOf]; omega
      · obtain rfl : k = m := by omega
        rw [List.take_of_length_le (by omega)] at hown
        clear hz
        go_wp2_with fail
        go_ret
        exact ⟨_, rfl, hown, hbel⟩
end Go.Proofs.YtajjpepjbflojaaGreatDoor

/-
  Small numbers as places of the document's own answer.
-/

namespace Go.Proofs.YtajjpepjbflojaaGreatDoor
open Go.RowKit Go.Proofs.YtajjpepjbflojaaGreatDoor.Num
set_option linter.unusedVariables false
set_option maxRecDepth 100000

def SmRel (t : TypeId) (w : World) (n : Nat) (iv v : Value) (wr : World) : Prop :=
  ∃ (m : Nat) (ds : List Nat), iv = .int .i64 (m : Int) ∧ m ≤ n ∧ Hid (cn 10000 n = ds ++ cn 10000 m) ∧ Own .i64 t wr w.heap.size v ds ∧ Below w.heap.size w wr

set_option maxHeartbeats 1000000 in
theorem small_any (n : Nat) (w : World) (hn : n ≤ 9223372036854775807) :
    Calls Tryz.prog 42 #[.int .i64 (n : Int)] w (OwnRet .i64 3 w (cn 10000 n)) := by
  obtain ⟨i0, hi, hz0, hz1, hz2⟩ := info_parts info_int
  have hlen : Hid ((cn 10000 n).length ≤ 20) := hide (cn_length_le (by omega) (Nat.lt_of_le_of_lt hn (by decide +kernel)))
  go_enter Tryz.func42, Tryz.ntmps42
  go_wp2_with fail
  go_loopw [0, 3] (fun iv v wr => SmRel 3 w n iv v wr) (fun iv _ _ => (intOf iv).toNat)
  case atStart => exact ⟨n, [], rfl, Nat.le_refl _, hide rfl, own_empty .i64 3 w w.heap.size (Nat.le_refl _), (Below.refl _ _).alloc (Nat.le_refl _) _⟩
  case round =>
    obtain ⟨m, ds, rfl, hm, hcn, hown, hbel⟩ := hrel
    by_cases h0 : 0 < m
    · have e1 := cn_pos (B := 10000) (n := m) (by omega) (by omega)
      obtain ⟨q, hq⟩ : ∃ q, m / 10000 = q := ⟨_, rfl⟩
      obtain ⟨r, hr⟩ : ∃ r, m % 10000 = r := ⟨_, rfl⟩
      rw [hq, hr] at e1
      have hqm : q < m := by omega
      have hrb : r < 10000 := by omega
      have eq : Int.tdiv (m : Int) 10000 = (q : Int) := by rw [← hq]; exact (Int.ofNat_tdiv m 10000).symm
      have er : Int.tmod (m : Int) 10000 = (r : Int) := by rw [← hr]; exact (Int.ofNat_tmod m 10000).symm
      have e2 : Hid (cn 10000 n = (ds ++ [r]) ++ cn 10000 q) := hide (by rw [hcn.out, e1, List.append_assoc]; rfl)
      have hsz := hbel.size
      have hl : ds.length + 1 ≤ 17592186044416 := by
        have h1 := congrArg List.length e2.out
        simp only [List.length_append, List.length_cons, List.length_nil] at h1
        have h2 := hlen.out
        omega
      have fin : ∀ u v' w', Own .i64 3 wr w.heap.size u ds → Own .i64 3 w' w.heap.size v' (ds ++ [r]) → wr.grownBy w' u.ownBlock → SmRel 3 w n (.int .i64 (q : Int)) v' w' := by
        intro u v' w' hu ho hg
        exact ⟨q, ds ++ [r], rfl, by omega, e2, ho, push_below hbel hu hg hsz⟩
      have Hown := hide hown
      have Hsz := hide hsz
      have Hl := hide hl
      clear hown hbel hcn e1 e2 hq hr hl hsz hlen
      go_wp2_with (at_builtin; go_must (refine wpList_push rfl (.tmp 7) (.tmp 10) 32 rfl Tryz.underlying32 hi hz0 hz1 hz2 rfl wr w.heap.size _ ds r Hown.out rfl rfl Hl.out (by decide) Hsz.out ?_); intro v' w' ho hg; have fin2 := fin _ v' w' Hown.out ho hg.1; clear fin ho hg)
      go_roundw
      case rel => exact fin2
      case measure => simp [intOf]; omega
    · obtain rfl : m = 0 := by omega
      have e1 : cn 10000 n = ds := by rw [hcn.out, cn_zero, List.append_nil]
      clear hcn hlen
      go_wp2_with fail
      go_ret
      exact ⟨_, rfl, by rw [e1]; exact hown, hbel⟩
end Go.Proofs.YtajjpepjbflojaaGreatDoor

/-
  The document's own answer: which number is the greater; the sum.
-/

namespace Go.Proofs.YtajjpepjbflojaaGreatDoor
open Go.RowKit Go.Proofs.YtajjpepjbflojaaGreatDoor.Num
set_option linter.unusedVariables false
set_option maxRecDepth 100000

set_option maxHeartbeats 1000000 in
theorem rcmp_any (B : Nat) (A D : Option Addr) (n c m d : Nat) (xs ys : List Nat) (w : World) (hx : Rd .i64 w B A n xs) (hy : Rd .i64 w B D m ys)
    (dx : Dg 10000 xs) (dy : Dg 10000 ys) (hn : n ≤ maxLen) (hm : m ≤ maxLen) :
    Calls Tryz.prog 40 #[.slice A n c, .slice D m d] w fun e w' => e = .returned (.int .i64 (cmpN (vl 10000 xs) (vl 10000 ys))) ∧ w = w' := by
  have hnl := hn
  have hml := hm
  unfold maxLen at hn hm
  have lx := hx.1
  have ly := hy.1
  obtain ⟨M, hM⟩ : ∃ M, M = max n m := ⟨_, rfl⟩
  have hxM : xs.length ≤ M := by omega
  have hyM : ys.length ≤ M := by omega
  clear lx ly
  rcases Nat.lt_or_ge n m with hnm | hnm
  case' inl =>
    obtain rfl : M = m := by omega
    have hd : decide (n < M) = true := decide_eq_true hnm
  case' inr =>
    obtain rfl : M = n := by omega
    have hd : decide (M < m) = false := decide_eq_false (by omega)
  all_goals
    clear hM
    have e0 : Hid (vl 10000 (xs.drop M) = vl 10000 (ys.drop M)) := hide (by rw [List.drop_eq_nil_of_le hxM, List.drop_eq_nil_of_le hyM])
    go_enter Tryz.func40, Tryz.ntmps40
    go_wp2_with fail
    go_loop [6] (fun iv => ∃ k : Nat, k ≤ M ∧ iv = .int .i64 ((k : Int) - 1) ∧ Hid (vl 10000 (xs.drop k) = vl 10000 (ys.drop k))) (fun iv => (intOf iv + 1).toNat)
    case atStart => exact ⟨M, Nat.le_refl _, rfl, e0⟩
    case round =>
      obtain ⟨k, hk, rfl, hv⟩ := hrel
      rcases Nat.eq_zero_or_pos k with h0 | h0
      · subst h0
        have e := hv.out
        rw [List.drop_zero, List.drop_zero] at e
        have e2 := hide (cmpN_eq (vl 10000 ys))
        rw [← e] at e2
        go_wp2_with fail
        go_ret
        exact ⟨by rw [← e, e2.out]; rfl, rfl⟩
      · obtain ⟨j, rfl⟩ : ∃ j, k = j + 1 := ⟨k - 1, by omega⟩
        have ej : ((j + 1 : Nat) : Int) - 1 = (j : Int) := by omega
        rw [ej]
        obtain ⟨x, ex⟩ : ∃ x, Hid (xs.getD j 0 = x) := ⟨_, hide rfl⟩
        obtain ⟨y, ey⟩ : ∃ y, Hid (ys.getD j 0 = y) := ⟨_, hide rfl⟩
        rcases Nat.lt_trichotomy x y with h | h | h
        · have e2 := hide (cmpN_lt (vl_less (by omega) dx ex.out ey.out hv.out h))
          clear ej e0
          go_wp2_with (first
            | (go_at_call 65; (with_reducible refine (place_any B A _ c j x xs _ hx hnl ex).mono ?_); rintro e w' ⟨rfl, rfl⟩)
            | (go_at_call 65; (with_reducible refine (place_any B D _ d j y ys _ hy hml ey).mono ?_); rintro e w' ⟨rfl, rfl⟩))
          go_ret
          exact ⟨by rw [e2.out]; rfl, rfl⟩
        · subst h
          have e2 : Hid (vl 10000 (xs.drop j) = vl 10000 (ys.drop j)) := hide (by rw [vl_drop 10000 xs j, vl_drop 10000 ys j, ex.out, ey.out, hv.out])
          clear ej e0
          go_wp2_with (first
            | (go_at_call 65; (with_reducible refine (place_any B A _ c j x xs _ hx hnl ex).mono ?_); rintro e w' ⟨rfl, rfl⟩)
            | (go_at_call 65; (with_reducible refine (place_any B D _ d j x ys _ hy hml ey).mono ?_); rintro e w' ⟨rfl, rfl⟩))
          go_round
          case rel => first | exact ⟨j, by omega, rfl, e2⟩ | exact ⟨trivial, _, _, _, _, _, _, _, _, _, _, _, _, _, _, _, _, _, _, _, _, ⟨j, by omega, rfl, e2⟩, rfl⟩
          case measure => simp [intOf]
        · have e2 := hide (cmpN_gt (vl_less (by omega) dy ey.out ex.out hv.out.symm h))
          clear ej e0
          go_wp2_with (first
            | (go_at_call 65; (with_reducible refine (place_any B A _ c j x xs _ hx hnl ex).mono ?_); rintro e w' ⟨rfl, rfl⟩)
            | (go_at_call 65; (with_reducible refine (place_any B D _ d j y ys _ hy hml ey).mono ?_); rintro e w' ⟨rfl, rfl⟩))
          go_ret
          exact ⟨by rw [e2.out]; rfl, rfl⟩

/-! ### The sum -/
theorem radd_step {k x y c lo cy : Nat} {zs xs ys : List Nat} (hz : zs.length = k) (hx : xs.getD k 0 = x) (hy : ys.getD k 0 = y) (hlo : (x + y + c) % 10000 = lo) (hcy : (x + y + c) / 10000 = cy)
    (h : vl 10000 zs + 10000 ^ k * c = vl 10000 (xs.take k) + vl 10000 (ys.take k)) :
    vl 10000 (zs ++ [lo]) + 10000 ^ (k + 1) * cy = vl 10000 (xs.take (k + 1)) + vl 10000 (ys.take (k + 1)) := by
  rw [vl_snoc, hz, vl_take_succ, vl_take_succ, hx, hy, Nat.pow_succ]
  have e : lo + 10000 * cy = x + y + c := by omega
  have e2 : 10000 ^ k * lo + 10000 ^ k * 10000 * cy = 10000 ^ k * x + 10000 ^ k * y + 10000 ^ k * c := by
    rw [Nat.mul_assoc, ← Nat.mul_add, e, Nat.mul_add, Nat.mul_add]
  omega
theorem radd_top {M cc : Nat} {xs ys zs : List Nat} (hn : xs.length ≤ M) (hm : ys.length ≤ M) (dx : Dg 10000 xs) (dy : Dg 10000 ys)
    (e : vl 10000 zs + 10000 ^ (M + 1) * cc = vl 10000 (xs.take (M + 1)) + vl 10000 (ys.take (M + 1))) : cc = 0 := by
  rw [List.take_of_length_le (by omega), List.take_of_length_le (by omega)] at e
  rcases Nat.eq_zero_or_pos cc with h | h
  · exact h
  · have h1 := vl_lt dx
    have h2 := vl_lt dy
    have h3 : 10000 ^ xs.length ≤ 10000 ^ M := Nat.pow_le_pow_right (by omega) hn
    have h4 : 10000 ^ ys.length ≤ 10000 ^ M := Nat.pow_le_pow_right (by omega) hm
    have h5 : 10000 ^ (M + 1) * 1 ≤ 10000 ^ (M + 1) * cc := Nat.mul_le_mul_left _ h
    have h6 : 10000 ^ (M + 1) = 10000 ^ M * 10000 := Nat.pow_succ ..
    omega

def RaRel (t : TypeId) (w : World) (M : Nat) (xs ys : List Nat) (v cv iv : Value) (wr : World) : Prop :=
  ∃ (k cc : Nat) (zs : List Nat), k ≤ M + 1 ∧ (k = M + 1 → cc = 0) ∧ cc ≤ 1 ∧ iv = .int .i64 (k : Int) ∧ cv = .int .i64 (cc : Int) ∧ zs.length = k ∧ Dg 10000 zs ∧
    Hid (vl 10000 zs + 10000 ^ k * cc = vl 10000 (xs.take k) + vl 10000 (ys.take k)) ∧ Own .i64 t wr w.heap.size v zs ∧ Below w.heap.size w wr

set_option maxHeartbeats 2000000 in
theorem radd_any (A D : Option Addr) (n c m d : Nat) (xs ys : List Nat) (w : World) (hx : Rd .i64 w w.heap.size A n xs) (hy : Rd .i64 w w.heap.size D m ys)
    (dx : Dg 10000 xs) (dy : Dg 10000 ys) (hn : n ≤ 800000000000) (hm : m ≤ 800000000000) :
    Calls Tryz.prog 43 #[.slice A n c, .slice D m d] w (OwnRet .i64 3 w (cn 10000 (vl 10000 xs + vl 10000 ys))) := by
  obtain ⟨i0, hi, hz0, hz1, hz2⟩ := info_parts info_int
  have hnl : n ≤ maxLen := by unfold maxLen; omega
  have hml : m ≤ maxLen := by unfold maxLen; omega
  obtain ⟨M, hM⟩ : ∃ M, M = max n m := ⟨_, rfl⟩
  have hxM : Hid (xs.length ≤ M) := hide (by have := hx.1; omega)
  have hyM : Hid (ys.length ≤ M) := hide (by have := hy.1; omega)
  have hMb : M ≤ 800000000000 := by omega
  have hnM : n ≤ M := by omega
  have hmM : m ≤ M := by omega
  have hMnm : ∀ k, n ≤ k → m ≤ k → M ≤ k := by intro k h1 h2; omega
  have Dx := hide dx
  have Dy := hide dy
  have HM := hide hMnm
  clear hM dx dy hMnm
  have e0 : Hid (vl 10000 ([] : List Nat) + 10000 ^ 0 * 0 = vl 10000 (xs.take 0) + vl 10000 (ys.take 0)) := hide (by simp [vl])
  go_enter Tryz.func43, Tryz.ntmps43
  go_wp2_with fail
  go_loopw [5, 6, 7] (fun v cv iv wr => RaRel 3 w M xs ys v cv iv wr) (fun _ _ iv _ => M + 1 - (intOf iv).toNat)
  case atStart => exact ⟨0, 0, [], by omega, fun _ => rfl, by omega, rfl, rfl, rfl, Dg.nil, e0, own_empty .i64 3 w w.heap.size (Nat.le_refl _), (Below.refl _ _).alloc (Nat.le_refl _) _⟩
  case round =>
    obtain ⟨k, cc, zs, hk, htop, hcc, rfl, rfl, hz, dz, hv, hown, hbel⟩ := hrel
    clear e0
    by_cases hgo : k < n ∨ k < m ∨ 0 < cc
    · have hkM : k ≤ M := by
        rcases Nat.lt_or_ge M k with h | h
        · have := htop (by omega)
          omega
        · exact h
      obtain ⟨x, ex⟩ : ∃ x, Hid (xs.getD k 0 = x) := ⟨_, hide rfl⟩
      obtain ⟨y, ey⟩ : ∃ y, Hid (ys.getD k 0 = y) := ⟨_, hide rfl⟩
      have bx : x < 10000 := by rw [← ex.out]; exact Dx.out.getD (by omega) k
      have bY : y < 10000 := by rw [← ey.out]; exact Dy.out.getD (by omega) k
      obtain ⟨lo, hlo⟩ : ∃ lo, (x + y + cc) % 10000 = lo := ⟨_, rfl⟩
      obtain ⟨cy, hcy⟩ : ∃ cy, (x + y + cc) / 10000 = cy := ⟨_, rfl⟩
      have hv2 := radd_step hz ex.out ey.out hlo hcy hv.out
      have htop2 : k + 1 = M + 1 → cy = 0 := fun h => by
        rw [h] at hv2
        exact radd_top hxM.out hyM.out Dx.out Dy.out hv2
      have er : Int.tmod ((x : Int) + (y : Int) + (cc : Int)) 10000 = (lo : Int) := by rw [← hlo]; exact (Int.ofNat_tmod (x + y + cc) 10000).symm
      have eq : Int.tdiv ((x : Int) + (y : Int) + (cc : Int)) 10000 = (cy : Int) := by rw [← hcy]; exact (Int.ofNat_tdiv (x + y + cc) 10000).symm
      have hcy1 : cy ≤ 1 := by omega
      have dz2 : Dg 10000 (zs ++ [lo]) := dz.append (Dg.cons (by omega) Dg.nil)
      have hz2 : (zs ++ [lo]).length = k + 1 := by simp [hz]
      have hx2 := hx.below hbel (Nat.le_refl _)
      have hy2 := hy.below hbel (Nat.le_refl _)
      have hsz := hbel.size
      have hl : zs.length + 1 ≤ 17592186044416 := by omega
      have fin : ∀ u v' w', Own .i64 3 wr w.heap.size u zs → Own .i64 3 w' w.heap.size v' (zs ++ [lo]) → wr.grownBy w' u.ownBlock → RaRel 3 w M xs ys v' (.int .i64 (cy : Int)) (.int .i64 ((k + 1 : Nat) : Int)) w' := by
        intro u v' w' hu ho hg
        exact ⟨k + 1, cy, _, by omega, htop2, hcy1, rfl, rfl, hz2, dz2, hide hv2, ho, push_below hbel hu hg hsz⟩
      have Hown := hide hown
      have Hsz := hide hsz
      have Hl := hide hl
      have hkb : k ≤ 800000000000 := by omega
      clear hv hv2 htop htop2 hlo hcy dz dz2 hz hz2 hx hy hown hbel hl hsz
      have hsplit : k < n ∨ (n ≤ k ∧ k < m) ∨ (n ≤ k ∧ m ≤ k ∧ 0 < cc) := by omega
      clear hgo HM hxM hyM Dx Dy
      rcases hsplit with h1 | ⟨h1, h2⟩ | ⟨h1, h2, h3⟩
      all_goals
        go_wp2_with (first
          | (go_at_call 65; (with_reducible refine (place_any w.heap.size A _ c k x xs _ hx2 hnl ex).mono ?_); rintro e w' ⟨rfl, rfl⟩)
          | (go_at_call 65; (with_reducible refine (place_any w.heap.size D _ d k y ys _ hy2 hml ey).mono ?_); rintro e w' ⟨rfl, rfl⟩)
          | (at_builtin; go_must (refine wpList_push rfl (.tmp 35) (.tmp 38) 32 rfl Tryz.underlying32 hi hz0 hz1 hz2 rfl wr w.heap.size _ zs lo Hown.out rfl rfl Hl.out (by decide) Hsz.out ?_); intro v' w' ho hg; have fin2 := fin _ v' w' Hown.out ho hg.1; clear fin ho hg))
        go_roundw
        case rel => exact fin2
        case measure => simp [intOf]; omega
    · obtain rfl : cc = 0 := by omega
      have hkn : n ≤ k := by omega
      have hkm : m ≤ k := by omega
      have e := hv.out
      rw [Nat.mul_zero, Nat.add_zero, List.take_of_length_le (by have := hx.1; omega), List.take_of_length_le (by have := hy.1; omega)] at e
      obtain ⟨A1, c1, rfl, _, _, r1, _⟩ := hown.form
      have ht := rtrim_any A1 zs.length c1 zs wr r1 (by omega)
      have etz : tz zs = cn 10000 (vl 10000 xs + vl 10000 ys) := by rw [← e, cn_vl (by omega) dz]
      rw [etz] at ht
      obtain ⟨S, hS⟩ : ∃ S, Hid (cn 10000 (vl 10000 xs + vl 10000 ys) = S) := ⟨_, hide rfl⟩
      rw [hS.out] at ht
      obtain ⟨L, hL⟩ : ∃ L, zs.length = L := ⟨_, rfl⟩
      rw [hL] at ht ⊢
      have Hb := hide hbel
      clear hL hz e etz dz hv hown hbel r1 hx hy hxM hyM Dx Dy HM htop hgo
      go_wp2_with (go_at_call 41; refine ht.mono ?_; rintro e w' ⟨v, rfl, ho, hb⟩)
      go_ret
      have fo := ho.mono Hb.out.size
      have fb := Hb.out.trans (hb.mono Hb.out.size)
      rw [← hS.out] at fo
      exact ⟨_, rfl, fo, fb⟩
end Go.Proofs.YtajjpepjbflojaaGreatDoor

/-
  The document's own answer: the difference.
-/

namespace Go.Proofs.YtajjpepjbflojaaGreatDoor
open Go.RowKit Go.Proofs.YtajjpepjbflojaaGreatDoor.Num
set_option linter.unusedVariables false
set_option maxRecDepth 100000

theorem rsub_step {k x y c lo cy : Nat} {zs xs ys : List Nat} (hz : zs.length = k) (hx : xs.getD k 0 = x) (hy : ys.getD k 0 = y) (e : lo + y + c = x + 10000 * cy)
    (h : vl 10000 zs + vl 10000 (ys.take k) = vl 10000 (xs.take k) + 10000 ^ k * c) :
    vl 10000 (zs ++ [lo]) + vl 10000 (ys.take (k + 1)) = vl 10000 (xs.take (k + 1)) + 10000 ^ (k + 1) * cy := by
  rw [vl_snoc, hz, vl_take_succ, vl_take_succ, hx, hy, Nat.pow_succ]
  have e2 : 10000 ^ k * lo + 10000 ^ k * y + 10000 ^ k * c = 10000 ^ k * x + 10000 ^ k * 10000 * cy := by
    rw [Nat.mul_assoc, ← Nat.mul_add, ← Nat.mul_add, e, Nat.mul_add]
  omega
theorem rsub_end {n cc : Nat} {xs ys zs : List Nat} (hx : xs.length = n) (dx : Dg 10000 xs) (hz : zs.length = n) (dz : Dg 10000 zs) (hle : vl 10000 ys ≤ vl 10000 xs)
    (e : vl 10000 zs + vl 10000 (ys.take n) = vl 10000 (xs.take n) + 10000 ^ n * cc) : vl 10000 zs = vl 10000 xs - vl 10000 ys := by
  rw [List.take_of_length_le (show xs.length ≤ n by omega)] at e
  have h1 := vl_lt dx
  have h2 := vl_lt dz
  rw [hx] at h1
  rw [hz] at h2
  have h3 := vl_cut 10000 ys n
  have h4 : vl 10000 (ys.drop n) = 0 := by
    rcases Nat.eq_zero_or_pos (vl 10000 (ys.drop n)) with h | h
    · exact h
    · have := Nat.mul_le_mul_left (10000 ^ n) h
      omega
  rw [h4, Nat.mul_zero] at h3
  have h5 : cc = 0 := by
    rcases Nat.eq_zero_or_pos cc with h | h
    · exact h
    · have := Nat.mul_le_mul_left (10000 ^ n) h
      omega
  subst h5
  omega

def RsRel (t : TypeId) (w : World) (n : Nat) (xs ys : List Nat) (v cv iv : Value) (wr : World) : Prop :=
  ∃ (k cc : Nat) (zs : List Nat), k ≤ n ∧ cc ≤ 1 ∧ iv = .int .i64 (k : Int) ∧ cv = .int .i64 (cc : Int) ∧ zs.length = k ∧ Dg 10000 zs ∧
    Hid (vl 10000 zs + vl 10000 (ys.take k) = vl 10000 (xs.take k) + 10000 ^ k * cc) ∧ Own .i64 t wr w.heap.size v zs ∧ Below w.heap.size w wr

set_option maxHeartbeats 2000000 in
theorem rsub_any (A D : Option Addr) (n c m d : Nat) (xs ys : List Nat) (w : World) (hx : Rd .i64 w w.heap.size A n xs) (hy : Rd .i64 w w.heap.size D m ys)
    (dx : Dg 10000 xs) (dy : Dg 10000 ys) (hn : n ≤ 800000000000) (hm : m ≤ 800000000000) (hle : vl 10000 ys ≤ vl 10000 xs) :
    Calls Tryz.prog 66 #[.slice A n c, .slice D m d] w (OwnRet .i64 3 w (cn 10000 (vl 10000 xs - vl 10000 ys))) := by
  obtain ⟨i0, hi, hz0, hz1, hz2⟩ := info_parts info_int
  have hml : m ≤ maxLen := by unfold maxLen; omega
  have Dx := hide dx
  have Dy := hide dy
  have Hle := hide hle
  clear dx dy hle
  have e0 : Hid (vl 10000 ([] : List Nat) + vl 10000 (ys.take 0) = vl 10000 (xs.take 0) + 10000 ^ 0 * 0) := hide (by simp [vl])
  go_enter Tryz.func66, Tryz.ntmps66
  go_wp2_with fail
  go_loopw [5, 6, 7] (fun v cv iv wr => RsRel 3 w n xs ys v cv iv wr) (fun _ _ iv _ => n - (intOf iv).toNat)
  case atStart => exact ⟨0, 0, [], by omega, by omega, rfl, rfl, rfl, Dg.nil, e0, own_empty .i64 3 w w.heap.size (Nat.le_refl _), (Below.refl _ _).alloc (Nat.le_refl _) _⟩
  case round =>
    obtain ⟨k, cc, zs, hk, hcc, rfl, rfl, hz, dz, hv, hown, hbel⟩ := hrel
    clear e0
    by_cases hlt : k < n
    · obtain ⟨x, ex⟩ : ∃ x, Hid (xs.getD k 0 = x) := ⟨_, hide rfl⟩
      obtain ⟨y, ey⟩ : ∃ y, Hid (ys.getD k 0 = y) := ⟨_, hide rfl⟩
      have bx : x < 10000 := by rw [← ex.out]; exact Dx.out.getD (by omega) k
      have bY : y < 10000 := by rw [← ey.out]; exact Dy.out.getD (by omega) k
      have hx2 := hx.below hbel (Nat.le_refl _)
      have hy2 := hy.below hbel (Nat.le_refl _)
      obtain ⟨b, o, rfl, _, hcx⟩ := hx2.at_ hlt
      rw [ex.out] at hcx
      have hsz := hbel.size
      have hl : zs.length + 1 ≤ 17592186044416 := by omega
      have Hown := hide hown
      have Hsz := hide hsz
      have Hl := hide hl
      have i1 : (k : Int) < (n : Int) := by omega
      have hnb : (n : Int) ≤ 800000000000 := by omega
      have e1 : IntKind.i64.wrap ((x : Int) - (y : Int)) = (x : Int) - (y : Int) := IntWalk.i64_in _ (by omega)
      by_cases hneg : x < y + cc
      · obtain ⟨lo, hlo⟩ : ∃ lo, lo + y + cc = x + 10000 * 1 := ⟨x + 10000 - y - cc, by omega⟩
        have e2 : IntKind.i64.wrap ((x : Int) - (y : Int) - (cc : Int)) = (lo : Int) - 10000 := by rw [IntWalk.i64_in _ (by omega)]; omega
        have e3 : (lo : Int) - 10000 + 10000 = (lo : Int) := by omega
        have e4 : decide ((lo : Int) - 10000 < 0) = true := decide_eq_true (by omega)
        have hlb : lo < 10000 := by omega
        have hv2 := rsub_step hz ex.out ey.out hlo hv.out
        have fin : ∀ nq u v' w', Own .i64 3 (wr.drewN nq) w.heap.size u zs → Own .i64 3 w' w.heap.size v' (zs ++ [lo]) → (wr.drewN nq).grownBy w' u.ownBlock → RsRel 3 w n xs ys v' (.int .i64 1) (.int .i64 ((k + 1 : Nat) : Int)) w' := by
          intro nq u v' w' hu ho hg
          exact ⟨k + 1, 1, _, by omega, by omega, rfl, rfl, by simp [hz], dz.append (Dg.cons hlb Dg.nil), hide hv2, ho, push_below (below_drewN hbel nq) hu hg hsz⟩
        clear hv hv2 hlo dz hz hx hy hown hbel hl hsz hneg Dx Dy Hle hx2
        go_wp2_with fail
        go_quiet ((go_at_call 65; exact Calls.quiet_of_same ((place_any w.heap.size D _ d k y ys _ (hy2.drewN _) hml ey).mono fun _ _ h => ⟨h.1, h.2.symm⟩)))
        clear e1 e2
        go_wp2_with (at_builtin; go_must (refine wpList_push rfl (.tmp 30) (.tmp 32) 32 rfl Tryz.underlying32 hi hz0 hz1 hz2 rfl (wr.drewN _) w.heap.size _ zs lo (Hown.out.drewN _) rfl rfl Hl.out (by decide) Hsz.out ?_); intro v' w' ho hg; have fin2 := fin _ _ v' w' (Hown.out.drewN _) ho hg.1; clear fin ho hg)
        go_roundw
        case rel => exact fin2
        case measure => simp [intOf]; omega
      · obtain ⟨lo, hlo⟩ : ∃ lo, lo + y + cc = x + 10000 * 0 := ⟨x - y - cc, by omega⟩
        have e2 : IntKind.i64.wrap ((x : Int) - (y : Int) - (cc : Int)) = (lo : Int) := by rw [IntWalk.i64_in _ (by omega)]; omega
        have e4 : decide ((lo : Int) < 0) = false := decide_eq_false (by omega)
        have hlb : lo < 10000 := by omega
        have hv2 := rsub_step hz ex.out ey.out hlo hv.out
        have fin : ∀ nq u v' w', Own .i64 3 (wr.drewN nq) w.heap.size u zs → Own .i64 3 w' w.heap.size v' (zs ++ [lo]) → (wr.drewN nq).grownBy w' u.ownBlock → RsRel 3 w n xs ys v' (.int .i64 0) (.int .i64 ((k + 1 : Nat) : Int)) w' := by
          intro nq u v' w' hu ho hg
          exact ⟨k + 1, 0, _, by omega, by omega, rfl, rfl, by simp [hz], dz.append (Dg.cons hlb Dg.nil), hide hv2, ho, push_below (below_drewN hbel nq) hu hg hsz⟩
        clear hv hv2 hlo dz hz hx hy hown hbel hl hsz hneg Dx Dy Hle hx2
        go_wp2_with fail
        go_quiet ((go_at_call 65; exact Calls.quiet_of_same ((place_any w.heap.size D _ d k y ys _ (hy2.drewN _) hml ey).mono fun _ _ h => ⟨h.1, h.2.symm⟩)))
        clear e1 e2
        go_wp2_with (at_builtin; go_must (refine wpList_push rfl (.tmp 30) (.tmp 32) 32 rfl Tryz.underlying32 hi hz0 hz1 hz2 rfl (wr.drewN _) w.heap.size _ zs lo (Hown.out.drewN _) rfl rfl Hl.out (by decide) Hsz.out ?_); intro v' w' ho hg; have fin2 := fin _ _ v' w' (Hown.out.drewN _) ho hg.1; clear fin ho hg)
        go_roundw
        case rel => exact fin2
        case measure => simp [intOf]; omega
    · obtain rfl : k = n := by omega
      have e := rsub_end hx.1 Dx.out hz dz Hle.out hv.out
      obtain ⟨A1, c1, rfl, _, _, r1, _⟩ := hown.form
      have ht := rtrim_any A1 zs.length c1 zs wr r1 (by omega)
      have etz : tz zs = cn 10000 (vl 10000 xs - vl 10000 ys) := by rw [← e, cn_vl (by omega) dz]
      rw [etz] at ht
      obtain ⟨S, hS⟩ : ∃ S, Hid (cn 10000 (vl 10000 xs - vl 10000 ys) = S) := ⟨_, hide rfl⟩
      rw [hS.out] at ht
      obtain ⟨L, hL⟩ : ∃ L, zs.length = L := ⟨_, rfl⟩
      rw [hL] at ht ⊢
      have Hb := hide hbel
      clear hL hz e etz dz hv hown hbel r1 hx hy Dx Dy Hle hlt
      go_wp2_with (go_at_call 41; refine ht.mono ?_; rintro e w' ⟨v, rfl, ho, hb⟩)
      go_ret
      have fo := ho.mono Hb.out.size
      have fb := Hb.out.trans (hb.mono Hb.out.size)
      rw [← hS.out] at fo
      exact ⟨_, rfl, fo, fb⟩
end Go.Proofs.YtajjpepjbflojaaGreatDoor

/-
  The document's own answer: the product.
-/

namespace Go.Proofs.YtajjpepjbflojaaGreatDoor
open Go.RowKit Go.Proofs.YtajjpepjbflojaaGreatDoor.Num
set_option linter.unusedVariables false
set_option maxRecDepth 100000

theorem make_int (n : Nat) (hn : n ≤ 1700000000000) (u : World) : (Instr.makeSlice 32 (.int .i64 (n : Int)) (.int .i64 (n : Int))).run Tryz.prog u =
    .ok (.slice (some ⟨u.heap.size, 0, none⟩) n n) (u.alloc (.cells (madeCells #[.int .i64 0] n) 3)) := by
  obtain ⟨i0, hi, hz0, hz1, hz2⟩ := info_parts info_int
  have h := run_make (P := Tryz.prog) u 32 3 i0 (.int .i64 0) Tryz.underlying32 hi hz0 .i64 .i64 (n : Int) (n : Int) (by omega) (Int.le_refl _) (by rw [hz2]; omega) (by omega)
  have e : (n : Int).toNat = n := by omega
  rw [e] at h
  simpa [hz1, Value.cells] using h

theorem vl_set (B : Nat) : ∀ (us : List Nat) (j x : Nat), j < us.length → vl B (us.set j x) + B ^ j * us.getD j 0 = vl B us + B ^ j * x
  | [], j, x, h => absurd h (by simp)
  | u :: us, 0, x, _ => by simp [vl]; omega
  | u :: us, j + 1, x, h => by
    have h1 := vl_set B us j x (by simpa using h)
    have h2 := congrArg (B * ·) h1
    simp only [Nat.mul_add] at h2
    simp only [List.set_cons_succ, vl, List.getD_cons_succ, Nat.pow_succ]
    rw [Nat.mul_comm (B ^ j) B, Nat.mul_assoc, Nat.mul_assoc]
    omega

theorem rmul_step {B i k u x y cc lo cy V : Nat} {us ys : List Nat} (hl : i + k < us.length) (hu : us.getD (i + k) 0 = u) (hy : ys.getD k 0 = y) (e : lo + B * cy = u + x * y + cc)
    (h : vl B us + B ^ (i + k) * cc = V + B ^ i * x * vl B (ys.take k)) :
    vl B (us.set (i + k) lo) + B ^ (i + (k + 1)) * cy = V + B ^ i * x * vl B (ys.take (k + 1)) := by
  have h1 := vl_set B us (i + k) lo hl
  rw [hu] at h1
  have e1 : B ^ (i + (k + 1)) * cy = B ^ (i + k) * (B * cy) := by rw [← Nat.add_assoc, Nat.pow_succ, Nat.mul_assoc]
  have e2 : B ^ i * x * vl B (ys.take (k + 1)) = B ^ i * x * vl B (ys.take k) + B ^ (i + k) * (x * y) := by
    rw [vl_take_succ, hy, Nat.mul_add, Nat.pow_add]
    congr 1
    rw [Nat.mul_assoc, Nat.mul_assoc]
    congr 1
    rw [Nat.mul_left_comm]
  rw [e1, e2]
  have e3 := congrArg (B ^ (i + k) * ·) e
  simp only [Nat.mul_add] at e3
  generalize B ^ (i + k) = P at *
  generalize B ^ i * x * vl B (ys.take k) = T at *
  omega

theorem rmul_row {B i x : Nat} {xs : List Nat} (Y : Nat) (hx : xs.getD i 0 = x) : vl B (xs.take i) * Y + B ^ i * x * Y = vl B (xs.take (i + 1)) * Y := by
  rw [vl_take_succ, hx, Nat.add_mul]

theorem rmul_top {i m cc x : Nat} {us xs ys : List Nat} (hx : xs.getD i 0 = x) (hi : i < xs.length) (hm : ys.length = m) (dx : Dg 10000 xs) (dy : Dg 10000 ys)
    (h : vl 10000 us + 10000 ^ (i + (m + 1)) * cc = vl 10000 (xs.take i) * vl 10000 ys + 10000 ^ i * x * vl 10000 (ys.take (m + 1))) : cc = 0 := by
  rw [List.take_of_length_le (show ys.length ≤ m + 1 by omega), rmul_row _ hx] at h
  rcases Nat.eq_zero_or_pos cc with h0 | h0
  · exact h0
  · have h1 := vl_lt (dx.take (i + 1))
    rw [List.length_take, Nat.min_eq_left (by omega)] at h1
    have h2 := vl_lt dy
    rw [hm] at h2
    have h3 := Nat.mul_lt_mul'' h1 h2
    rw [← Nat.pow_add, show i + 1 + m = i + (m + 1) by omega] at h3
    have h4 : 10000 ^ (i + (m + 1)) * 1 ≤ 10000 ^ (i + (m + 1)) * cc := Nat.mul_le_mul_left _ h0
    generalize 10000 ^ (i + (m + 1)) = P at *
    omega

def RmIn (t : TypeId) (w : World) (N i x m V : Nat) (ys : List Nat) (cv kv : Value) (wr : World) : Prop :=
  ∃ (k cc : Nat) (us : List Nat), k ≤ m + 1 ∧ Hid (k = m + 1 → cc = 0) ∧ cc < 10000 ∧ kv = .int .i64 (k : Int) ∧ cv = .int .i64 (cc : Int) ∧ Hid (us.length = N) ∧ Dg 10000 us ∧
    Hid (vl 10000 us + 10000 ^ (i + k) * cc = V + 10000 ^ i * x * vl 10000 (ys.take k)) ∧ Row .i64 t wr w.heap.size 0 (madeCells #[.int .i64 0] N) us ∧ Below w.heap.size w wr
def RmOut (t : TypeId) (w : World) (N n Y : Nat) (xs : List Nat) (iv : Value) (wr : World) : Prop :=
  ∃ (i : Nat) (us : List Nat), i ≤ n ∧ iv = .int .i64 (i : Int) ∧ Hid (us.length = N) ∧ Dg 10000 us ∧ Hid (vl 10000 us = vl 10000 (xs.take i) * Y) ∧
    Row .i64 t wr w.heap.size 0 (madeCells #[.int .i64 0] N) us ∧ Below w.heap.size w wr

set_option maxHeartbeats 4000000 in
theorem rmul_any (A D : Option Addr) (n c m d : Nat) (xs ys : List Nat) (w : World) (hx : Rd .i64 w w.heap.size A n xs) (hy : Rd .i64 w w.heap.size D m ys)
    (dx : Dg 10000 xs) (dy : Dg 10000 ys) (hn : n ≤ 400000000000) (hm : m ≤ 400000000000) :
    Calls Tryz.prog 44 #[.slice A n c, .slice D m d] w (OwnRet .i64 3 w (cn 10000 (vl 10000 xs * vl 10000 ys))) := by
  have hml : m ≤ maxLen := by unfold maxLen; omega
  have hmk := make_int (n + m + 1) (by omega)
  rw [Int.natCast_succ, Int.natCast_add] at hmk
  obtain ⟨N, hN⟩ : ∃ N, n + m + 1 = N := ⟨_, rfl⟩
  have eN : (n : Int) + (m : Int) + 1 = (N : Int) := by omega
  rw [hN, eN] at hmk
  have hNb : N ≤ 800000000001 := by omega
  have Dx := hide dx
  have Dy := hide dy
  have HN := hide hN
  obtain ⟨Y, hY⟩ : ∃ Y, Hid (vl 10000 ys = Y) := ⟨_, hide rfl⟩
  clear dx dy hN
  have e0 : Hid (vl 10000 (List.replicate N 0) = vl 10000 (xs.take 0) * Y) := hide (by rw [vl_replicate]; simp [vl])
  go_enter Tryz.func44, Tryz.ntmps44
  go_wp2_with fail
  go_loopw [6] (fun iv wr => RmOut 3 w N n Y xs iv wr) (fun iv _ => n - (intOf iv).toNat)
  case atStart =>
    exact ⟨0, List.replicate N 0, Nat.zero_le _, rfl, hide (by simp), Dg.replicate (by omega) N, e0, Row.made w .i64 3 N, (Below.refl _ _).alloc (Nat.le_refl _) _⟩
  case round =>
    obtain ⟨i, us, hi, rfl, hul, du, hv, hrow, hbel⟩ := hrel
    clear hmk e0
    by_cases hlt : i < n
    · obtain ⟨x, ex⟩ : ∃ x, Hid (xs.getD i 0 = x) := ⟨_, hide rfl⟩
      have bx : x < 10000 := by rw [← ex.out]; exact Dx.out.getD (by omega) i
      obtain ⟨V, hV⟩ : ∃ V, Hid (vl 10000 (xs.take i) * Y = V) := ⟨_, hide rfl⟩
      have e1 : Hid (vl 10000 us + 10000 ^ (i + 0) * 0 = V + 10000 ^ i * x * vl 10000 (ys.take 0)) := hide (by rw [hv.out, hV.out]; simp [vl])
      have Du := hide du
      have Hrow := hide hrow
      have Hbel := hide hbel
      clear hv du hrow hbel
      go_wp2_with fail
      go_loopw [7, 8] (fun cv kv wr => RmIn 3 w N i x m V ys cv kv wr) (fun _ kv _ => m + 1 - (intOf kv).toNat)
      case atStart => exact ⟨0, 0, us, Nat.zero_le _, hide (fun _ => rfl), by omega, rfl, rfl, hul, Du.out, e1, Hrow.out, Hbel.out⟩
      case round =>
        clear e1 hul Du Hrow Hbel us
        obtain ⟨k, cc, us, hk, htop, hcc, rfl, rfl, hul, du, hv, hrow, hbel⟩ := hrel
        by_cases hgo : k < m ∨ 0 < cc
        · have hkm : k ≤ m := by
            rcases Nat.lt_or_ge m k with h | h
            · have := htop.out (by omega)
              omega
            · exact h
          have hjl : i + k < us.length := by rw [hul.out]; have := HN.out; omega
          obtain ⟨u, eu⟩ : ∃ u, Hid (us.getD (i + k) 0 = u) := ⟨_, hide rfl⟩
          obtain ⟨y, ey⟩ : ∃ y, Hid (ys.getD k 0 = y) := ⟨_, hide rfl⟩
          have bu : u < 10000 := by rw [← eu.out]; exact du.getD (by omega) _
          have bY : y < 10000 := by rw [← ey.out]; exact Dy.out.getD (by omega) k
          obtain ⟨p, hp⟩ : ∃ p, x * y = p := ⟨_, rfl⟩
          have bp : p ≤ 99980001 := by rw [← hp]; exact Nat.mul_le_mul (show x ≤ 9999 by omega) (show y ≤ 9999 by omega)
          obtain ⟨lo, hlo⟩ : ∃ lo, (u + p + cc) % 10000 = lo := ⟨_, rfl⟩
          obtain ⟨cy, hcy⟩ : ∃ cy, (u + p + cc) / 10000 = cy := ⟨_, rfl⟩
          have hlb : lo < 10000 := by omega
          have hcb : cy < 10000 := by omega
          have hv2 := rmul_step (lo := lo) (cy := cy) hjl eu.out ey.out (by rw [hp]; omega) hv.out
          have htop2 : Hid (k + 1 = m + 1 → cy = 0) := hide (fun h => by
            rw [h, ← hV.out, ← hY.out] at hv2
            exact rmul_top ex.out (by have := hx.1; omega) hy.1 Dx.out Dy.out hv2)
          have Hv2 := hide hv2
          have er : Int.tmod ((u : Int) + (p : Int) + (cc : Int)) 10000 = (lo : Int) := by rw [← hlo]; exact (Int.ofNat_tmod (u + p + cc) 10000).symm
          have eq : Int.tdiv ((u : Int) + (p : Int) + (cc : Int)) 10000 = (cy : Int) := by rw [← hcy]; exact (Int.ofNat_tdiv (u + p + cc) 10000).symm
          have exy : (x : Int) * (y : Int) = (p : Int) := by rw [← hp, Int.natCast_mul]
          obtain ⟨j, hj⟩ : ∃ j, i + k = j := ⟨_, rfl⟩
          have ej : IntKind.i64.wrap ((i : Int) + (k : Int)) = (j : Int) := by rw [IntWalk.i64_in _ (by omega)]; omega
          have ep : IntKind.i64.wrap ((x : Int) * (y : Int)) = (p : Int) := by rw [exy, IntWalk.i64_in _ (by omega)]
          have es : IntKind.i64.wrap ((u : Int) + (p : Int)) = (u : Int) + (p : Int) := IntWalk.i64_in _ (by omega)
          have es2 : IntKind.i64.wrap ((u : Int) + (p : Int) + (cc : Int)) = (u : Int) + (p : Int) + (cc : Int) := IntWalk.i64_in _ (by omega)
          have hcu := hrow.cell hjl
          have hfr := hrow.frozen (0 + (i + k))
          have hst := hrow.set_ hjl lo
          rw [eu.out] at hcu
          rw [hj] at hcu hfr hst Hv2 hjl
          rw [Nat.zero_add] at hcu hfr hst
          have hjN : (j : Int) < (N : Int) := by have := hul.out; omega
          have hul2 : Hid ((us.set j lo).length = N) := hide (by rw [List.length_set]; exact hul.out)
          have du2 : Dg 10000 (us.set j lo) := du.set j hlb
          have hx2 := hx.below hbel (Nat.le_refl _)
          have hy2 := hy.below hbel (Nat.le_refl _)
          obtain ⟨b, o, rfl, _, hcx⟩ := hx2.at_ hlt
          rw [ex.out] at hcx
          have hb2 : ∀ nq, Below w.heap.size w ((wr.drewN nq).setCell ⟨w.heap.size, j, none⟩ (.int .i64 (lo : Int))) := fun nq => (below_drewN hbel nq).setCell (Nat.le_refl _) _
          have fin : ∀ nq, RmIn 3 w N i x m V ys (.int .i64 (cy : Int)) (.int .i64 ((k + 1 : Nat) : Int)) ((wr.drewN nq).setCell ⟨w.heap.size, j, none⟩ (.int .i64 (lo : Int))) := fun nq =>
            ⟨k + 1, cy, _, by omega, htop2, hcb, rfl, rfl, hul2, du2, Hv2, (by have h9 := hrow.drewN nq; have h8 := h9.set_ hjl lo; rw [Nat.zero_add] at h8; exact h8), hb2 nq⟩
          have hjb : j ≤ 800000000000 := by omega
          clear hst hb2 hul2 du2 Hv2 htop2 hv2 hv hul du htop hrow hbel hx2 hlo hcy hp exy bu bY bp Dx Dy HN hjl hV hj
          have hsplit : k < m ∨ (m ≤ k ∧ 0 < cc) := by omega
          clear hgo
          rcases hsplit with h1 | ⟨h1, h2⟩
          all_goals
            go_wp2_with fail
            go_quiet ((go_at_call 65; exact Calls.quiet_of_same ((place_any w.heap.size D _ d k y ys _ (hy2.drewN _) hml ey).mono fun _ _ h => ⟨h.1, h.2.symm⟩)))
            go_wp2_with fail
            go_roundw
            case rel => exact fin _
            case measure => simp [intOf]; omega
        · obtain rfl : cc = 0 := by omega
          have hkm : m ≤ k := by omega
          have e := hv.out
          rw [Nat.mul_zero, Nat.add_zero, List.take_of_length_le (by have := hy.1; omega), hY.out, ← hV.out, rmul_row _ ex.out] at e
          have fin : RmOut 3 w N n Y xs (.int .i64 ((i + 1 : Nat) : Int)) wr := ⟨i + 1, us, by omega, rfl, hul, du, hide e, hrow, hbel⟩
          clear hv e htop hul du hrow hbel hgo Dx Dy HN hV hx hy
          go_wp2_with fail
          go_roundw
          case rel => exact fin
          case measure => simp [intOf]; omega
    · obtain rfl : i = n := by omega
      have e := hv.out
      rw [List.take_of_length_le (by have := hx.1; omega), ← hY.out] at e
      have hL := hul.out
      have r1 : Rd .i64 wr wr.heap.size (some ⟨w.heap.size, 0, none⟩) N us := ⟨hL, fun _ => ⟨_, _, rfl, hrow.lt, fun j hj => hrow.cell (by omega)⟩⟩
      have ht := rtrim_any (some ⟨w.heap.size, 0, none⟩) N N us wr r1 (by omega)
      have etz : tz us = cn 10000 (vl 10000 xs * vl 10000 ys) := by rw [← e, cn_vl (by omega) du]
      rw [etz] at ht
      obtain ⟨S, hS⟩ : ∃ S, Hid (cn 10000 (vl 10000 xs * vl 10000 ys) = S) := ⟨_, hide rfl⟩
      rw [hS.out] at ht
      have Hb := hide hbel
      clear hL e etz du hv hul hrow hbel r1 hx hy hY HN Dx Dy hlt
      go_wp2_with (go_at_call 41; refine ht.mono ?_; rintro e w' ⟨v, rfl, ho, hb⟩)
      go_ret
      have fo := ho.mono Hb.out.size
      have fb := Hb.out.trans (hb.mono Hb.out.size)
      rw [← hS.out] at fo
      exact ⟨_, rfl, fo, fb⟩
end Go.Proofs.YtajjpepjbflojaaGreatDoor

/-
  Calls of the document's own answer on lists that are held as values: what each reads as, in how many places at most; a list's number told.
-/

namespace Go.Proofs.YtajjpepjbflojaaGreatDoor
open Go.RowKit Go.Proofs.YtajjpepjbflojaaGreatDoor.Num
set_option linter.unusedVariables false
set_option maxRecDepth 100000

/-- The value reads as the number x, in at most L places. -/
def Iw (w : World) (v : Value) (x L : Nat) : Prop :=
  ∃ A n c xs, v = .slice A n c ∧ Rd .i64 w w.heap.size A n xs ∧ Dg 10000 xs ∧ vl 10000 xs = x ∧ n ≤ L
/-- The value is the plain list of the number x, in at most L places. -/
def Ic (w : World) (v : Value) (x L : Nat) : Prop :=
  ∃ A c, v = .slice A (cn 10000 x).length c ∧ Rd .i64 w w.heap.size A (cn 10000 x).length (cn 10000 x) ∧ (cn 10000 x).length ≤ L

theorem B_two : 2 ≤ 10000 := by omega

theorem Iw.step {w w' : World} {v : Value} {x L : Nat} (h : Iw w v x L) (hb : Below w.heap.size w w') : Iw w' v x L := by
  obtain ⟨A, n, c, xs, e, h1, h2⟩ := h
  exact ⟨A, n, c, xs, e, (h1.below hb (Nat.le_refl _)).more hb.size, h2⟩
theorem Ic.step {w w' : World} {v : Value} {x L : Nat} (h : Ic w v x L) (hb : Below w.heap.size w w') : Ic w' v x L := by
  obtain ⟨A, c, e, h1, h2⟩ := h
  exact ⟨A, c, e, (h1.below hb (Nat.le_refl _)).more hb.size, h2⟩
theorem Ic.iw {w : World} {v : Value} {x L : Nat} (h : Ic w v x L) : Iw w v x L := by
  obtain ⟨A, c, e, h1, h2⟩ := h
  exact ⟨A, _, c, _, e, h1, dg_cn B_two x, vl_cn B_two x, h2⟩
theorem Iw.lt {w : World} {v : Value} {x L : Nat} (h : Iw w v x L) : x < 10000 ^ L := by
  obtain ⟨A, n, c, xs, e, h1, dx, rfl, hL⟩ := h
  have := vl_lt dx
  rw [h1.len] at this
  exact Nat.lt_of_lt_of_le this (Nat.pow_le_pow_right (by omega) hL)
theorem Ic.of {w : World} {B : Nat} {v : Value} {x L : Nat} (h : Own .i64 3 w B v (cn 10000 x)) (hL : x < 10000 ^ L) : Ic w v x L := by
  obtain ⟨A, c, rfl, h1, h2, h3, _⟩ := h.form
  exact ⟨A, c, rfl, h3, cn_length_le B_two hL⟩
theorem Ic.more {w : World} {v : Value} {x L M : Nat} (h : Ic w v x L) (hL : L ≤ M) : Ic w v x M := by
  obtain ⟨A, c, e, h1, h2⟩ := h
  exact ⟨A, c, e, h1, by omega⟩

/-- What a call leaves that answers the plain list of a number. -/
def INew (w : World) (x L : Nat) (e : Ending) (w' : World) : Prop := ∃ r, e = .returned r ∧ Own .i64 3 w' w.heap.size r (cn 10000 x) ∧ Ic w' r x L ∧ Below w.heap.size w w'

theorem INew.of {w : World} {x L : Nat} {e : Ending} {w' : World} (h : OwnRet .i64 3 w (cn 10000 x) e w') (hL : x < 10000 ^ L) : INew w x L e w' := by
  obtain ⟨r, he, ho, hb⟩ := h
  exact ⟨r, he, ho, Ic.of ho hL, hb⟩

theorem iadd {w : World} {u v : Value} {x y L M K : Nat} (hu : Iw w u x L) (hv : Iw w v y M) (hK : K ≤ 800000000000) (hLK : L ≤ K) (hMK : M ≤ K) :
    Calls Tryz.prog 43 #[u, v] w (INew w (x + y) (K + 1)) := by
  have lx := hu.lt
  have ly := hv.lt
  obtain ⟨A, n, c, xs, rfl, hx, dx, rfl, hn⟩ := hu
  obtain ⟨D, m, d, ys, rfl, hy, dy, rfl, hm⟩ := hv
  refine (radd_any A D n c m d xs ys w hx hy dx dy (by omega) (by omega)).mono fun e w' h => INew.of h ?_
  have h1 : 10000 ^ L ≤ 10000 ^ K := Nat.pow_le_pow_right (by omega) hLK
  have h2 : 10000 ^ M ≤ 10000 ^ K := Nat.pow_le_pow_right (by omega) hMK
  have h6 : 10000 ^ (K + 1) = 10000 ^ K * 10000 := Nat.pow_succ ..
  omega
theorem imul {w : World} {u v : Value} {x y L M : Nat} (hu : Iw w u x L) (hv : Iw w v y M) (hL : L ≤ 400000000000) (hM : M ≤ 400000000000) :
    Calls Tryz.prog 44 #[u, v] w (INew w (x * y) (L + M)) := by
  have lx := hu.lt
  have ly := hv.lt
  obtain ⟨A, n, c, xs, rfl, hx, dx, rfl, hn⟩ := hu
  obtain ⟨D, m, d, ys, rfl, hy, dy, rfl, hm⟩ := hv
  refine (rmul_any A D n c m d xs ys w hx hy dx dy (by omega) (by omega)).mono fun e w' h => INew.of h ?_
  rw [Nat.pow_add]
  exact Nat.mul_lt_mul'' lx ly
theorem isub {w : World} {u v : Value} {x y L M : Nat} (hu : Iw w u x L) (hv : Iw w v y M) (hL : L ≤ 800000000000) (hM : M ≤ 800000000000) (hle : y ≤ x) :
    Calls Tryz.prog 66 #[u, v] w (INew w (x - y) L) := by
  have lx := hu.lt
  obtain ⟨A, n, c, xs, rfl, hx, dx, rfl, hn⟩ := hu
  obtain ⟨D, m, d, ys, rfl, hy, dy, rfl, hm⟩ := hv
  exact (rsub_any A D n c m d xs ys w hx hy dx dy (by omega) (by omega) hle).mono fun e w' h => INew.of h (by omega)
theorem icmp {w : World} {u v : Value} {x y L M : Nat} (hu : Iw w u x L) (hv : Iw w v y M) (hL : L ≤ 800000000000) (hM : M ≤ 800000000000) :
    Calls Tryz.prog 40 #[u, v] w fun e w' => e = .returned (.int .i64 (cmpN x y)) ∧ w = w' := by
  obtain ⟨A, n, c, xs, rfl, hx, dx, rfl, hn⟩ := hu
  obtain ⟨D, m, d, ys, rfl, hy, dy, rfl, hm⟩ := hv
  exact rcmp_any _ A D n c m d xs ys w hx hy dx dy (by unfold maxLen; omega) (by unfold maxLen; omega)
theorem ismall {x L : Nat} (w : World) (hx : x ≤ 9223372036854775807) (hL : x < 10000 ^ L) :
    Calls Tryz.prog 42 #[.int .i64 (x : Int)] w (INew w x L) :=
  (small_any x w hx).mono fun e w' h => INew.of h hL
theorem itrim {w : World} {u : Value} {x L : Nat} (hu : Iw w u x L) (hL : L ≤ 800000000000) :
    Calls Tryz.prog 41 #[u] w (INew w x L) := by
  have lx := hu.lt
  obtain ⟨A, n, c, xs, rfl, hx, dx, rfl, hn⟩ := hu
  refine (rtrim_any A n c xs w hx (by omega)).mono fun e w' h => INew.of ?_ lx
  rw [cn_vl B_two dx]
  exact h

/-! ### A number told -/
theorem vl_drop_le {B : Nat} (hB : 0 < B) (xs : List Nat) (k : Nat) : vl B (xs.drop k) ≤ vl B xs := by
  have h := vl_cut B xs k
  have h1 : 1 ≤ B ^ k := Nat.pow_pos hB
  have h2 := Nat.mul_le_mul_right (vl B (xs.drop k)) h1
  rw [Nat.one_mul] at h2
  omega

/-! ### append([]int{x}, r...) -/
theorem run_cons {P : Program} {k : IntKind} {t e : TypeId} {i : TypeInfo} {z : Value} {by_ : Nat} (ht : P.underlying t = some (.slice e)) (hi : P.info? e = some i) (hz : i.zero = some z)
    (hsize : i.size = 1) (hby : i.bytes = by_) (hzs : z.cells.size = 1) (ty : TypeId) (w : World) (x : Nat) (ad : Addr) (n c : Nat) (xs : List Nat) (hx : Rd k w w.heap.size (some ad) n xs)
    (hlen : n + 1 ≤ 17592186044416) (hb8 : by_ ≤ 8) :
    ∃ v' w', (Builtin.append_ #[t, t] ty #[.slice (some ⟨w.heap.size, 0, none⟩) 1 1, .slice (some ad) n c]).run P (w.alloc (.cells #[.int k (x : Int)] e)) = .ok v' w' ∧ Own k e w' w.heap.size v' (x :: xs) ∧ Below w.heap.size w w' := by
  have h0 : (w.alloc (.cells #[.int k (x : Int)] e)).ownsRow w.heap.size e 1 (.slice (some ⟨w.heap.size, 0, none⟩) 1 1) 1 ([x].map fun n : Nat => Value.int k (n : Int)) :=
    Own.toOwns (xs := [x]) (Own.of_row (Row.new w k e #[.int k (x : Int)] [x] (Nat.le_refl _) (fun j hj => by
      match j, hj with
      | 0, _ => rfl)) (Nat.le_refl _) rfl (by simp [maxLen]))
  obtain ⟨v', w', hr, h2, h3, -, h5⟩ := run_append_own_at (P := P) (w.alloc (.cells #[.int k (x : Int)] e)) w.heap.size t ty e i z 1 by_ ht hi hz hsize hby hzs (by omega) _ 1 _ h0
    ad n c (xs.map fun n : Nat => Value.int k (n : Int)) (by simp [hx.1]) (by
      intro j u hj
      have hjn : j < n := by
        rw [List.getElem?_map] at hj
        rcases Nat.lt_or_ge j xs.length with h | h
        · rw [hx.1] at h; exact h
        · rw [List.getElem?_eq_none h] at hj; cases hj
      obtain ⟨b, off, he, hb, hc⟩ := hx.at_ hjn
      cases he
      have hl := hx.1
      rw [List.getElem?_map, List.getElem?_eq_getElem (by omega)] at hj
      simp at hj
      subst hj
      have e1 : (⟨b, off, none⟩ : Addr).add j = ⟨b, off + j, none⟩ := by
        unfold Addr.add
        by_cases h : j = 0
        · subst h; simp
        · simp [h]
      rw [e1, World.cell?_alloc_lt _ _ _ (by simpa using hb), hc]
      simp [List.getD_eq_getElem?_getD, show j < xs.length by omega]) (by intro u hu; simp at hu; obtain ⟨a, _, rfl⟩ := hu; rfl) (by unfold maxLen; omega)
      (by
        have h := Nat.mul_le_mul hlen hb8
        rw [Nat.add_comm 1 n]
        omega) (by simp)
  refine ⟨v', w', hr, Own.ofOwns (n := 1 + n) (by simp [hx.1]; omega) (by simpa using h2), ?_⟩
  refine ((Below.refl w.heap.size w).alloc (Nat.le_refl _) _).grown h3 (by simp) (fun g hg => ?_)
  simp [Value.ownBlock] at hg
  omega

theorem run_cons_nil {P : Program} {k : IntKind} {t e : TypeId} {i : TypeInfo} (ht : P.underlying t = some (.slice e)) (hi : P.info? e = some i) (hsize : i.size = 1) (ty : TypeId) (w : World) (x : Nat) :
    (Builtin.append_ #[t, t] ty #[.slice (some ⟨w.heap.size, 0, none⟩) 1 1, .slice none 0 0]).run P (w.alloc (.cells #[.int k (x : Int)] e)) = .ok (.slice (some ⟨w.heap.size, 0, none⟩) 1 1) (w.alloc (.cells #[.int k (x : Int)] e)) := by
  simp [Builtin.append_, run_underlying ht, sizeOf, typeInfo, hi, Builtin.lenOf, Builtin.firstCells, storeCells]

theorem run_cons_own {P : Program} {k : IntKind} {t e : TypeId} {i : TypeInfo} {z : Value} {by_ : Nat} (ht : P.underlying t = some (.slice e)) (hi : P.info? e = some i) (hz : i.zero = some z)
    (hsize : i.size = 1) (hby : i.bytes = by_) (hzs : z.cells.size = 1) (ty : TypeId) (w : World) (x B : Nat) (v : Value) (xs : List Nat) (hx : Own k e w B v xs)
    (hlen : xs.length + 1 ≤ 17592186044416) (hb8 : by_ ≤ 8) :
    ∃ v' w', (Builtin.append_ #[t, t] ty #[.slice (some ⟨w.heap.size, 0, none⟩) 1 1, v]).run P (w.alloc (.cells #[.int k (x : Int)] e)) = .ok v' w' ∧ Own k e w' w.heap.size v' (x :: xs) ∧ Below w.heap.size w w' := by
  rcases hx with ⟨rfl, rfl⟩ | ⟨g, cap, C, rfl, hB, hr, hC, hm⟩
  · refine ⟨_, _, run_cons_nil ht hi hsize ty w x, ?_, (Below.refl _ _).alloc (Nat.le_refl _) _⟩
    exact Own.of_row (xs := [x]) (Row.new w k e #[.int k (x : Int)] [x] (Nat.le_refl _) (fun j hj => by
      match j, hj with
      | 0, _ => rfl)) (Nat.le_refl _) rfl (by simp [maxLen])
  · exact run_cons ht hi hz hsize hby hzs ty w x ⟨g, 0, none⟩ xs.length cap xs ⟨rfl, fun _ => ⟨g, 0, rfl, hr.lt, fun j hj => hr.cell hj⟩⟩ hlen hb8

theorem wpList_cons {P : Program} {ops : Array Oper} {rest : List Oper} {o : Oper} {a : Act} {Q : Exit → Act → World → Prop} (hgd : o.guard = none) (s y : Operand) (t : TypeId)
    (ho : o.op = .call { callee := .builtin .append, args := #[s, y], argTypes := #[t, t] })
    {k : IntKind} {e : TypeId} {i : TypeInfo} {z : Value} {by_ : Nat} (ht : P.underlying t = some (.slice e)) (hi : P.info? e = some i) (hz : i.zero = some z)
    (hsize : i.size = 1) (hby : i.bytes = by_) (hzs : z.cells.size = 1) (w : World) (x B : Nat) (v : Value) (xs : List Nat) (hx : Own k e w B v xs)
    (hs : a.eval s = .slice (some ⟨w.heap.size, 0, none⟩) 1 1) (hy : a.eval y = v)
    (hlen : xs.length + 1 ≤ 17592186044416) (hb8 : by_ ≤ 8)
    (h : ∀ v' w', Own k e w' w.heap.size v' (x :: xs) → Below w.heap.size w w' → wpList P ops Q rest (a.put o.dst v') w') :
    wpList P ops Q (o :: rest) a (w.alloc (.cells #[.int k (x : Int)] e)) :=
  wpList_plain hgd fun _ hK => by
    obtain ⟨v', w', hr, h2, h3⟩ := run_cons_own (P := P) ht hi hz hsize hby hzs o.type w x B v xs hx hlen hb8
    unfold Oper.wp execOp
    simp only [ho, resolve, invoke, builtin, Sem.run_bind, Sem.run_pure, Result.andThen_ok, List.map_toArray, List.map_cons, List.map_nil, hs, hy, hr]
    exact hK _ _ (h v' w' h2 h3)

/-! ### A list of one place; a store elsewhere -/
theorem iw_one (w : World) (t : TypeId) {x : Nat} (hx : x < 10000) : Iw (w.alloc (.cells #[.int .i64 (x : Int)] t)) (.slice (some ⟨w.heap.size, 0, none⟩) 1 1) x 1 :=
  ⟨_, 1, 1, [x], rfl, ⟨rfl, fun _ => ⟨w.heap.size, 0, rfl, by simp, fun j hj => by
    obtain rfl : j = 0 := by omega
    simp⟩⟩, Dg.cons hx Dg.nil, by simp [vl], Nat.le_refl _⟩
theorem Own.setFar {k : IntKind} {e : TypeId} {w : World} {B : Nat} {v : Value} {xs : List Nat} (h : Own k e w B v xs) {p : Addr} (hp : p.block < B) (u : Value) : Own k e (w.setCell p u) B v xs := by
  rcases h with h | ⟨g, cap, C, rfl, hB, hr, r⟩
  · exact .inl h
  · exact .inr ⟨g, cap, C, rfl, hB, hr.far (by omega) u, r⟩
end Go.Proofs.YtajjpepjbflojaaGreatDoor

/-
  The document's own answer: quotient and rest, place by place.
-/

namespace Go.Proofs.YtajjpepjbflojaaGreatDoor
open Go.RowKit Go.Proofs.YtajjpepjbflojaaGreatDoor.Num
set_option linter.unusedVariables false
set_option maxRecDepth 100000

theorem fill_back (j low : Nat) (qs : List Nat) : (List.replicate (j + 1) 0 ++ qs).set j low = List.replicate j 0 ++ low :: qs := by
  rw [List.replicate_succ', List.append_assoc, List.set_append_right _ _ (by simp)]
  simp

theorem rdiv_step {j x lo Y R S qv : Nat} {xs : List Nat} (hx : xs.getD j 0 = x) (h : qv * Y + R = vl 10000 (xs.drop (j + 1))) (hS : S = x + 10000 * R) :
    (lo + 10000 * qv) * Y + (S - lo * Y) = vl 10000 (xs.drop j) + (lo * Y - S) := by
  rw [vl_drop 10000 xs j, hx, ← h, Nat.add_mul, Nat.mul_assoc, Nat.mul_add]
  omega

def DmOut (t : TypeId) (w : World) (n Y M : Nat) (xs : List Nat) (rv iv : Value) (wr : World) : Prop :=
  ∃ (k R : Nat) (qs : List Nat), k ≤ n ∧ iv = .int .i64 ((k : Int) - 1) ∧ Hid (qs.length + k = n) ∧ Dg 10000 qs ∧ Hid (vl 10000 qs * Y + R = vl 10000 (xs.drop k)) ∧ Hid (R < Y) ∧
    Own .i64 t wr (w.heap.size + 1) rv (cn 10000 R) ∧ Row .i64 t wr w.heap.size 0 (madeCells #[.int .i64 0] n) (List.replicate k 0 ++ qs) ∧ Below w.heap.size w wr
def DmIn (w1 : World) (Y S : Nat) (lv hv : Value) (wr : World) : Prop :=
  ∃ lo hi : Nat, lo < hi ∧ hi ≤ 10000 ∧ lv = .int .i64 (lo : Int) ∧ hv = .int .i64 (hi : Int) ∧ Hid (lo * Y ≤ S) ∧ Hid (S < hi * Y) ∧ Below w1.heap.size w1 wr

/-- What it leaves: quotient and rest. -/
def DmRet (t : TypeId) (w : World) (X Y : Nat) (e : Ending) (w' : World) : Prop :=
  ∃ q r, e = .returned (.tuple #[q, r]) ∧ Own .i64 t w' w.heap.size q (cn 10000 (X / Y)) ∧ Own .i64 t w' w.heap.size r (cn 10000 (X % Y)) ∧ Below w.heap.size w w'

set_option maxHeartbeats 4000000 in
theorem rdivmod_any (A : Option Addr) (n c : Nat) (xs : List Nat) (bv : Value) (Y M : Nat) (w : World) (hx : Rd .i64 w w.heap.size A n xs) (hy : Iw w bv Y M)
    (dx : Dg 10000 xs) (hY : 0 < Y) (hn : n ≤ 100000000000) (hm : M ≤ 100000000000) :
    Calls Tryz.prog 46 #[.slice A n c, bv] w (DmRet 3 w (vl 10000 xs) Y) := by
  obtain ⟨i0, hi, hz0, hz1, hz2⟩ := info_parts info_int
  have hmk := make_int n (by omega)
  have Dx := hide dx
  have HY := hide hY
  have hYM := hide hy.lt
  have HB := hide hy
  obtain ⟨X, hX⟩ : ∃ X, Hid (vl 10000 xs = X) := ⟨_, hide rfl⟩
  have e0 : Hid (vl 10000 ([] : List Nat) * Y + 0 = vl 10000 (xs.drop n)) := hide (by rw [List.drop_eq_nil_of_le (by have := hx.1; omega)]; simp [vl])
  rw [hX.out]
  clear dx hY hy
  go_enter Tryz.func46, Tryz.ntmps46
  go_wp2_with fail
  go_loopw [7, 8] (fun rv iv wr => DmOut 3 w n Y M xs rv iv wr) (fun _ iv _ => (intOf iv + 1).toNat)
  case atStart =>
    refine ⟨n, 0, [], Nat.le_refl _, rfl, hide (by simp), Dg.nil, e0, HY, ?_, ?_, ?_⟩
    · rw [cn_zero]
      have h := own_empty .i64 3 (w.alloc (.cells (madeCells #[.int .i64 0] n) 3)) (w.heap.size + 1) (by simp)
      simpa using h
    · rw [List.append_nil]
      exact (Row.made w .i64 3 n).alloc _
    · exact ((Below.refl _ _).alloc (Nat.le_refl _) _).alloc (by simp) _
  case round =>
    obtain ⟨k, R, qs, hk, rfl, hql, dq, hv, hR, hown, hrow, hbel⟩ := hrel
    clear e0 hmk
    rcases Nat.eq_zero_or_pos k with h0 | h0
    · subst h0
      have e := hv.out
      rw [List.drop_zero, hX.out] at e
      have eq : X / Y = vl 10000 qs := by rw [← e]; exact (Nat.div_eq_of_lt_le (by omega) (by rw [Nat.add_mul]; have := hR.out; omega))
      have er : X % Y = R := by rw [← e, Nat.add_comm, Nat.add_mul_mod_self_right]; exact Nat.mod_eq_of_lt hR.out
      rw [List.replicate_zero, List.nil_append] at hrow
      have hL := hql.out
      rw [Nat.add_zero] at hL
      have r1 : Rd .i64 wr wr.heap.size (some ⟨w.heap.size, 0, none⟩) n qs := ⟨hL, fun _ => ⟨_, _, rfl, hrow.lt, fun j hj => hrow.cell (by omega)⟩⟩
      have ht := rtrim_any (some ⟨w.heap.size, 0, none⟩) n n qs wr r1 (by omega)
      have etz : tz qs = cn 10000 (X / Y) := by rw [eq, cn_vl B_two dq]
      rw [etz] at ht
      have Er := hide er
      have Hown := hide hown
      have Hbel := hide hbel
      have Ht := hide ht
      clear hL e etz dq hv hql hrow hbel r1 hx hR hX Dx hown ht eq er HB hYM HY hn hm
      go_wp2_with (go_at_call 41; refine Ht.out.mono ?_; rintro e w' ⟨v, rfl, ho, hb⟩)
      go_ret2
      have fo := ho.mono Hbel.out.size
      have fr := (Hown.out.below hb (Nat.le_refl _)).mono (show w.heap.size ≤ w.heap.size + 1 by omega)
      have fb := Hbel.out.trans (hb.mono Hbel.out.size)
      rw [← Er.out] at fr
      exact ⟨_, _, rfl, fo, fr, fb⟩
    · obtain ⟨j, rfl⟩ : ∃ j, k = j + 1 := ⟨k - 1, by omega⟩
      obtain ⟨wo, hwo⟩ : ∃ wo, wo = wr := ⟨_, rfl⟩
      subst hwo
      have ej : ((j + 1 : Nat) : Int) - 1 = (j : Int) := by omega
      rw [ej]
      obtain ⟨x, ex⟩ : ∃ x, Hid (xs.getD j 0 = x) := ⟨_, hide rfl⟩
      have bx : x < 10000 := by rw [← ex.out]; exact Dx.out.getD (by omega) j
      have hx2 := hx.below hbel (Nat.le_refl _)
      obtain ⟨b, o, rfl, hbb, hcx⟩ := hx2.at_ (show j < n by omega)
      rw [ex.out] at hcx
      have i1 : (j : Int) < (n : Int) := by omega
      obtain ⟨S, hS⟩ : ∃ S, Hid (S = x + 10000 * R) := ⟨_, hide rfl⟩
      have hSY : Hid (S < 10000 * Y) := hide (by have := hR.out; have := hS.out; omega)
      have hRM : R < 10000 ^ M := Nat.lt_trans hR.out hYM.out
      have hlR : Hid ((cn 10000 R).length + 1 ≤ 17592186044416) := hide (by have := cn_length_le B_two hRM; omega)
      have hSM : Hid (S < 10000 ^ (M + 1)) := hide (by rw [Nat.pow_succ]; have := hS.out; omega)
      have eS : Hid (vl 10000 (x :: cn 10000 R) = S) := hide (by rw [hS.out]; simp only [vl]; rw [vl_cn B_two])
      have dS : Hid (Dg 10000 (x :: cn 10000 R)) := hide (Dg.cons bx (dg_cn B_two R))
      -- what stays behind the cut of the rest
      have Hown := hide hown
      have Hbel := hide hbel
      have Hrow := hide hrow
      have HRM := hide hRM
      have Hx := hide hx
      have trimS : Hid (∀ v' w', Own .i64 3 w' wo.heap.size v' (x :: cn 10000 R) → Calls Tryz.prog 41 #[v'] w' (INew w' S (M + 1))) := hide (by
        intro v' w' ho
        obtain ⟨A1, c1, rfl, h1, h2, h3, _⟩ := ho.form
        have hl := hlR.out
        have h := rtrim_any A1 _ c1 _ w' h3 (by simp only [List.length_cons]; have := cn_length_le B_two hRM; omega)
        refine h.mono fun e w2 h => INew.of ?_ hSM.out
        rw [← cn_vl B_two dS.out, eS.out] at h
        exact h)
      clear hown hbel hrow hRM hx hx2 hR hbb bx
      go_wp2_with (first
        | (at_builtin; go_must (refine wpList_cons rfl (.tmp 27) (.tmp 28) 32 rfl Tryz.underlying32 hi hz0 hz1 hz2 rfl wo x _ _ (cn 10000 R) Hown.out rfl rfl hlR.out (by decide) ?_); intro v0 w0 ho hb0)
        | (go_at_call 41; refine (trimS.out _ _ ho).mono ?_; rintro e w1 ⟨v1, rfl, ho1, hc1, hb1⟩))
      have Ho1 := hide (ho1.mono hb0.size)
      have Hc1 := hide hc1
      have Hb1 := hide (hb0.trans (hb1.mono hb0.size))
      clear ho hb0 ho1 hc1 hb1 trimS eS dS hlR
      go_wp2_with fail
      go_loopw [9, 10] (fun lv hv wx => DmIn w1 Y S lv hv wx) (fun lv hv _ => (intOf hv - intOf lv).toNat)
      case atStart => exact ⟨0, 10000, by omega, by omega, rfl, rfl, hide (by simp), hSY, Below.refl _ _⟩
      case round =>
        obtain ⟨lo, hi', hlh, hhb, rfl, rfl, hlo, hhi, hb2⟩ := hrel
        have Hb2 := hide hb2
        have hb12 : Hid (Below w.heap.size w wr) := hide (Hbel.out.trans ((Hb1.out.trans (hb2.mono Hb1.out.size)).mono Hbel.out.size))
        by_cases hgap : lo + 1 < hi'
        · obtain ⟨mid, hmid⟩ : ∃ mid, (lo + hi') / 2 = mid := ⟨_, rfl⟩
          have em : Int.tdiv ((lo : Int) + (hi' : Int)) 2 = (mid : Int) := by rw [← hmid]; exact (Int.ofNat_tdiv (lo + hi') 2).symm
          have hm1 : lo < mid := by omega
          have hm2 : mid < hi' := by omega
          have gap : (1 : Int) < (hi' : Int) - (lo : Int) := by omega
          have mulc : Hid (Calls Tryz.prog 44 #[bv, .slice (some ⟨wr.heap.size, 0, none⟩) 1 1] (wr.alloc (.cells #[.int .i64 (mid : Int)] 3)) (fun e w' => ∃ r, e = .returned r ∧ Ic w' r (Y * mid) (M + 1) ∧ Ic w' v1 S (M + 1) ∧ Below w1.heap.size w1 w')) := hide (by
            have ha : Below wr.heap.size wr (wr.alloc (.cells #[.int .i64 (mid : Int)] 3)) := (Below.refl _ _).alloc (Nat.le_refl _) _
            have h1 := HB.out.step (hb12.out.trans (ha.mono hb12.out.size))
            have h2 := iw_one wr 3 (x := mid) (by omega)
            refine (imul h1 h2 (by omega) (by omega)).mono fun e w' ⟨r, he, _, hc, hb⟩ => ⟨r, he, hc, ?_, ?_⟩
            · exact ((Hc1.out.step hb2).step ha).step hb
            · exact (hb2.trans (ha.mono hb2.size)).trans (hb.mono (Nat.le_trans hb2.size ha.size)))
          obtain ⟨s, hs⟩ : ∃ s, Hid (cmpN (Y * mid) S = s) := ⟨_, hide rfl⟩
          have cmpc : Hid (∀ r w', Ic w' r (Y * mid) (M + 1) → Ic w' v1 S (M + 1) → Calls Tryz.prog 40 #[r, v1] w' fun e w2 => e = .returned (.int .i64 s) ∧ w' = w2) := hide (by
            intro r w' h1 h2
            rw [← hs.out]
            exact icmp h1.iw h2.iw (by omega) (by omega))
          have hcase : (decide (s ≤ 0) = true ∧ Hid (mid * Y ≤ S)) ∨ (decide (s ≤ 0) = false ∧ Hid (S < mid * Y)) := by
            have h0 := hs.out
            rcases Nat.lt_trichotomy (Y * mid) S with h | h | h
            · rw [cmpN_lt h] at h0; exact .inl ⟨decide_eq_true (by omega), hide (by rw [Nat.mul_comm]; omega)⟩
            · rw [h, cmpN_eq] at h0; exact .inl ⟨decide_eq_true (by omega), hide (by rw [Nat.mul_comm]; omega)⟩
            · rw [cmpN_gt h] at h0; exact .inr ⟨decide_eq_false (by omega), hide (by rw [Nat.mul_comm]; omega)⟩
          clear hs hmid hb2
          rcases hcase with ⟨hd, hle⟩ | ⟨hd, hle⟩
          all_goals
            go_wp2_with (first
              | (go_at_call 44; refine mulc.out.mono ?_; rintro e w2 ⟨r, rfl, hcr, hc1, hb3⟩)
              | (go_at_call 40; refine (cmpc.out _ _ hcr hc1).mono ?_; rintro e w3 ⟨rfl, rfl⟩))
            go_roundw
            case rel => first | exact ⟨mid, hi', hm2, hhb, rfl, rfl, hle, hhi, hb3⟩ | exact ⟨lo, mid, hm1, by omega, rfl, rfl, hlo, hle, hb3⟩
            case measure => simp [intOf]; omega
        · obtain rfl : hi' = lo + 1 := by omega
          have gap : decide ((1 : Int) < (lo : Int) + 1 - (lo : Int)) = false := decide_eq_false (by omega)
          have hlo4 : lo < 10000 := by omega
          have hrow2 := Hrow.out.below (Hb1.out.trans (hb2.mono Hb1.out.size)) Hrow.out.lt
          have hjl : j < (List.replicate (j + 1) 0 ++ qs).length := by simp; omega
          obtain ⟨z, hz⟩ : ∃ z : Nat, wr.cell? ⟨w.heap.size, j, none⟩ = some (.int .i64 (z : Int)) := ⟨_, by have h := hrow2.cell hjl; rw [Nat.zero_add] at h; exact h⟩
          have hfr := hrow2.frozen j
          have hst := hide (hrow2.set_ hjl lo)
          have hwr : w.heap.size < wo.heap.size := Hrow.out.lt
          obtain ⟨wy, hwy⟩ : ∃ wy, Hid (wr.setCell ⟨w.heap.size, j, none⟩ (.int .i64 (lo : Int)) = wy) := ⟨_, hide rfl⟩
          have hsy : Hid (wy.heap.size = wr.heap.size) := hide (by rw [← hwy.out]; simp [World.setCell])
          have hby : Hid (Below w.heap.size w wy) := hide (by rw [← hwy.out]; exact hb12.out.setCell (Nat.le_refl _) _)
          have ho1y : Hid (Own .i64 3 wy wo.heap.size v1 (cn 10000 S)) := hide (by
            have h := Own.setFar (Ho1.out.below hb2 (Nat.le_refl _)) (p := ⟨w.heap.size, j, none⟩) hwr (.int .i64 (lo : Int))
            rw [hwy.out] at h
            exact h)
          have hrowy : Hid (Row .i64 3 wy w.heap.size 0 (madeCells #[.int .i64 0] n) (List.replicate j 0 ++ lo :: qs)) := hide (by
            have h := hst.out
            rw [Nat.zero_add, hwy.out, fill_back] at h
            exact h)
          have hc1y := Ic.of ho1y.out hSM.out
          have mulc : Hid (Calls Tryz.prog 44 #[bv, .slice (some ⟨wr.heap.size, 0, none⟩) 1 1] ((wr.setCell ⟨w.heap.size, j, none⟩ (.int .i64 (lo : Int))).alloc (.cells #[.int .i64 (lo : Int)] 3)) (fun e w' => ∃ r, e = .returned r ∧ Ic w' r (Y * lo) (M + 1) ∧ Below wy.heap.size wy w')) := hide (by
            rw [← hsy.out, hwy.out]
            have ha : Below wy.heap.size wy (wy.alloc (.cells #[.int .i64 (lo : Int)] 3)) := (Below.refl _ _).alloc (Nat.le_refl _) _
            have h1 := HB.out.step (hby.out.trans (ha.mono hby.out.size))
            have h2 := iw_one wy 3 (x := lo) hlo4
            exact (imul h1 h2 (by omega) (by omega)).mono fun e w' ⟨r, he, _, hc, hb⟩ => ⟨r, he, hc, ha.trans (hb.mono ha.size)⟩)
          have e1 := rdiv_step (lo := lo) ex.out hv.out hS.out
          have subc : Hid (∀ r w', Ic w' r (Y * lo) (M + 1) → Below wy.heap.size wy w' → Calls Tryz.prog 66 #[v1, r] w' fun e w2 => ∃ v, e = .returned v ∧ DmOut 3 w n Y M xs v (.int .i64 ((j : Int) - 1)) w2) := hide (by
            intro r w' h1 h2
            have hle : Y * lo ≤ S := by rw [Nat.mul_comm]; exact hlo.out
            refine (isub (hc1y.step h2).iw h1.iw (by omega) (by omega) hle).mono fun e w2 ⟨v, he, ho, _, hb⟩ => ⟨v, he, j, S - Y * lo, lo :: qs, by omega, rfl, ?_, Dg.cons hlo4 dq, ?_, ?_, ?_, ?_, ?_⟩
            · exact hide (by have := hql.out; simp only [List.length_cons]; omega)
            · refine hide ?_
              simp only [vl]
              rw [Nat.mul_comm lo Y] at e1
              omega
            · have h9 := hhi.out
              rw [Nat.add_mul, Nat.one_mul, Nat.mul_comm] at h9
              exact hide (by omega)
            · exact ho.mono (by have := h2.size; have := hsy.out; have := hb2.size; have := Hb1.out.size; omega)
            · have hw : w.heap.size < wy.heap.size := by have := hsy.out; have := hb2.size; have := Hb1.out.size; omega
              exact ((hrowy.out.below h2 hw).below hb (Nat.lt_of_lt_of_le hw h2.size))
            · exact (hby.out.trans (h2.mono hby.out.size)).trans (hb.mono (Nat.le_trans hby.out.size h2.size)))
          clear hrow2 hst hc1y e1 hb2 hlo hhi hSY ex hS hv hql dq hjl
          go_wp2_with (first
            | (go_at_call 44; refine mulc.out.mono ?_; rintro e w2 ⟨r, rfl, hcr, hb3⟩)
            | (go_at_call 66; refine (subc.out _ _ hcr hb3).mono ?_; rintro e w3 ⟨v, rfl, fin⟩))
          go_roundw
          case rel => exact fin
          case measure => simp [intOf]
end Go.Proofs.YtajjpepjbflojaaGreatDoor

/-
  The document's own answer: a number's words.
-/

namespace Go.Proofs.YtajjpepjbflojaaGreatDoor
open Go.RowKit Go.Proofs.YtajjpepjbflojaaGreatDoor.Num
set_option linter.unusedVariables false
set_option maxRecDepth 100000

theorem idivmod {w : World} {u v : Value} {x y L M : Nat} (hu : Ic w u x L) (hv : Iw w v y M) (hy : 0 < y) (hL : L ≤ 100000000000) (hM : M ≤ 100000000000) :
    Calls Tryz.prog 46 #[u, v] w (fun e w' => ∃ q r, e = .returned (.tuple #[q, r]) ∧ Own .i64 3 w' w.heap.size q (cn 10000 (x / y)) ∧ Own .i64 3 w' w.heap.size r (cn 10000 (x % y)) ∧
      Ic w' q (x / y) L ∧ Ic w' r (x % y) M ∧ Below w.heap.size w w') := by
  have lx := hu.iw.lt
  have ly := hv.lt
  obtain ⟨A, c, rfl, h1, h2⟩ := hu
  have h := rdivmod_any A _ c _ v y M w h1 hv (dg_cn B_two x) hy (by omega) hM
  rw [vl_cn B_two] at h
  refine h.mono fun e w' ⟨q, r, he, hq, hr, hb⟩ => ⟨q, r, he, hq, hr, Ic.of hq (Nat.lt_of_le_of_lt (Nat.div_le_self _ _) lx), Ic.of hr (Nat.lt_trans (Nat.mod_lt _ hy) ly), hb⟩

theorem half_new (w : World) : Calls Tryz.prog 42 #[.int .i64 4294967296] w (INew w 4294967296 3) := ismall (x := 4294967296) (L := 3) w (by omega) (by decide +kernel)

theorem own_apart {k k' : IntKind} {e e' : TypeId} {w w' : World} {B B' : Nat} {v v' : Value} {xs ys : List Nat} (h1 : Own k e w B v xs) (h2 : Own k' e' w' B' v' ys) (hB : w.heap.size ≤ B') :
    v'.ownBlock = none ∨ v'.ownBlock ≠ v.ownBlock := by
  rcases h2 with ⟨rfl, _⟩ | ⟨g', cap', C', rfl, hB', hr', _⟩
  · left; rfl
  · right
    rcases h1 with ⟨rfl, _⟩ | ⟨g, cap, C, rfl, hB1, hr, _⟩
    · simp [Value.ownBlock]
    · have := hr.lt
      simp [Value.ownBlock]; omega

def ToRel (tu ti : TypeId) (w : World) (X L : Nat) (half ov xv : Value) (wr : World) : Prop :=
  ∃ (ws : List Nat) (Z : Nat), Own .u64 tu wr w.heap.size ov ws ∧ Hid (cn Q X = ws ++ cn Q Z) ∧ Own .i64 ti wr w.heap.size xv (cn 10000 Z) ∧ Hid (Z ≤ X) ∧
    Own .i64 ti wr w.heap.size half (cn 10000 4294967296) ∧ Hid (half.ownBlock = none ∨ half.ownBlock ≠ ov.ownBlock) ∧ Below w.heap.size w wr

def lenV : Value → Nat
  | .slice _ n _ => n
  | _ => 0
theorem cn_len_le {B a b : Nat} (hB : 2 ≤ B) (h : a ≤ b) : (cn B a).length ≤ (cn B b).length :=
  cn_length_le hB (Nat.lt_of_le_of_lt h (lt_of_cn_length hB (Nat.le_refl _)))
theorem cn_len_less {Z : Nat} (hZ : Z ≠ 0) : (cn 10000 (Z / 4294967296 / 4294967296)).length < (cn 10000 Z).length := by
  rw [cn_pos B_two hZ, List.length_cons]
  have := cn_len_le B_two (show Z / 4294967296 / 4294967296 ≤ Z / 10000 by omega)
  omega
theorem word_parts {Z : Nat} (hZ : Z ≠ 0) : cn Q Z = (Z / 4294967296 % 4294967296 * 4294967296 + Z % 4294967296) :: cn Q (Z / 4294967296 / 4294967296) := by
  have hQ : Q = 4294967296 * 4294967296 := by decide +kernel
  rw [cn_pos Q_two hZ, Nat.div_div_eq_div_mul, ← hQ]
  congr 1
  rw [hQ]
  omega

end Go.Proofs.YtajjpepjbflojaaGreatDoor

/-
  The document's own answer: words as a number.
-/

namespace Go.Proofs.YtajjpepjbflojaaGreatDoor
open Go.RowKit Go.Proofs.YtajjpepjbflojaaGreatDoor.Num
set_option linter.unusedVariables false
set_option maxRecDepth 100000

theorem cell_keep {W w' : World} {p : Addr} {v : Value} (hc : W.cell? p = some v) (hb : Below W.heap.size W w') : w'.cell? p = some v := (hb.cell (World.block_lt_of_cell? _ _ hc)).trans hc

theorem below_of_drew {B : Nat} {a w : World} (h : Below B a.drew w) : Below B a w := ⟨h.os, h.tape, h.output, h.size, h.block⟩
theorem of_mul {W : World} {ov half : Value} {P L : Nat} {p : Addr} {x : Value} (h1 : Ic W ov P L) (h2 : Ic W half 4294967296 3) (hc : W.cell? p = some x) (hL : L ≤ 400000000000) :
    Calls Tryz.prog 44 #[ov, half] W fun e w' => ∃ r, e = .returned r ∧ w'.cell? p = some x ∧ Ic w' r (P * 4294967296) (L + 3) ∧ Ic w' half 4294967296 3 ∧ Below W.heap.size W w' :=
  (imul h1.iw h2.iw hL (by omega)).mono fun e w' ⟨r, he, _, hi, hb⟩ => ⟨r, he, cell_keep hc hb, hi, h2.step hb, hb⟩
theorem of_small {W : World} {rv half : Value} {d P L : Nat} {p : Addr} {x : Value} (h1 : Ic W rv P L) (h2 : Ic W half 4294967296 3) (hc : W.cell? p = some x) (hd : d < 4294967296) :
    Calls Tryz.prog 42 #[.int .i64 (d : Int)] W fun e w' => ∃ r, e = .returned r ∧ w'.cell? p = some x ∧ Ic w' r d 3 ∧ Ic w' rv P L ∧ Ic w' half 4294967296 3 ∧ Below W.heap.size W w' :=
  (ismall W (by omega) (Nat.lt_trans hd (by decide +kernel))).mono fun e w' ⟨r, he, _, hi, hb⟩ => ⟨r, he, cell_keep hc hb, hi, h1.step hb, h2.step hb, hb⟩
theorem of_add {W : World} {rv sv half : Value} {d P L : Nat} {p : Addr} {x : Value} (h1 : Ic W rv P L) (h3 : Ic W sv d 3) (h2 : Ic W half 4294967296 3) (hc : W.cell? p = some x) (hL : 3 ≤ L) (hL2 : L ≤ 800000000000) :
    Calls Tryz.prog 43 #[rv, sv] W fun e w' => ∃ r, e = .returned r ∧ w'.cell? p = some x ∧ Own .i64 3 w' W.heap.size r (cn 10000 (P + d)) ∧ Ic w' r (P + d) (L + 1) ∧ Ic w' half 4294967296 3 ∧ Below W.heap.size W w' :=
  (iadd (K := L) h1.iw h3.iw hL2 (by omega) hL).mono fun e w' ⟨r, he, ho, hi, hb⟩ => ⟨r, he, cell_keep hc hb, ho, hi, h2.step hb, hb⟩

def OfRel (t : TypeId) (w : World) (n : Nat) (xs : List Nat) (half ov iv : Value) (wr : World) : Prop :=
  ∃ k : Nat, k ≤ n ∧ iv = .int .i64 ((k : Int) - 1) ∧ Own .i64 t wr w.heap.size ov (cn 10000 (vl Q (xs.drop k))) ∧ Ic wr half 4294967296 3 ∧ Below w.heap.size w wr

theorem len_words {n k : Nat} {xs : List Nat} (hx : xs.length = n) (dx : Dg Q xs) (hk : k ≤ n) : vl Q (xs.drop k) < 10000 ^ (5 * (n - k)) := by
  have h := vl_lt (dx.drop k)
  rw [List.length_drop, hx] at h
  refine Nat.lt_of_lt_of_le h ?_
  rw [Nat.pow_mul]
  exact Nat.pow_le_pow_left (by decide +kernel) _

theorem of_word {P x hi lo : Nat} (h1 : x / 4294967296 = hi) (h2 : x % 4294967296 = lo) : x + Q * P = (P * 4294967296 + hi) * 4294967296 + lo := by
  have hQ : Q = 4294967296 * 4294967296 := by decide +kernel
  rw [hQ, Nat.add_mul, Nat.mul_assoc P, Nat.mul_comm P]
  omega

set_option maxHeartbeats 4000000 in
theorem rof_any (A : Option Addr) (n c : Nat) (xs : List Nat) (w : World) (hx : Rd .u64 w w.heap.size A n xs) (dx : Dg Q xs) (hn : n ≤ 1000000000) :
    Calls Tryz.prog 24 #[.slice A n c] w (OwnRet .i64 3 w (cn 10000 (vl Q xs))) := by
  have Hx := hide hx
  have Dx := hide dx
  have e0 : Hid (vl Q (xs.drop n) = 0) := hide (by rw [List.drop_eq_nil_of_le (by have := hx.1; omega)]; rfl)
  clear hx dx
  go_enter Tryz.func24, Tryz.ntmps24
  go_wp2_with fail
  refine (half_new _).mono ?_
  rintro e w1 ⟨half, rfl, oh, ch, b1⟩
  have a0 : Below w.heap.size w (w.alloc (.cells #[] 3)) := (Below.refl _ _).alloc (Nat.le_refl _) _
  have start : OfRel 3 w n xs half (.slice (some ⟨w.heap.size, 0, none⟩) 0 0) (.int .i64 ((n : Int) - 1)) w1 :=
    ⟨n, Nat.le_refl _, rfl, by rw [e0.out, cn_zero]; exact (own_empty .i64 3 w w.heap.size (Nat.le_refl _)).below b1 (Nat.le_refl _), ch, a0.trans (b1.mono a0.size)⟩
  clear oh ch b1 a0 e0
  go_wp2_with fail
  go_loopw [3, 5] (fun ov iv wr => OfRel 3 w n xs half ov iv wr) (fun _ iv _ => (intOf iv + 1).toNat)
  case atStart => exact start
  case round =>
    clear start
    obtain ⟨k, hk, rfl, hown, hhalf, hbel⟩ := hrel
    rcases Nat.eq_zero_or_pos k with h0 | h0
    · subst h0
      rw [List.drop_zero] at hown
      clear Hx Dx hhalf
      go_wp2_with fail
      go_ret
      exact ⟨_, rfl, hown, hbel⟩
    · obtain ⟨j, rfl⟩ : ∃ j, k = j + 1 := ⟨k - 1, by omega⟩
      have ej : ((j + 1 : Nat) : Int) - 1 = (j : Int) := by omega
      rw [ej]
      obtain ⟨x, ex⟩ : ∃ x, Hid (xs.getD j 0 = x) := ⟨_, hide rfl⟩
      obtain ⟨P, hP⟩ : ∃ P, Hid (vl Q (xs.drop (j + 1)) = P) := ⟨_, hide rfl⟩
      have hx2 := Hx.out.below hbel (Nat.le_refl _)
      obtain ⟨b, o, rfl, hbb, hcx⟩ := hx2.at_ (show j < n by omega)
      rw [ex.out] at hcx
      have bx : x < Q := by rw [← ex.out]; exact Dx.out.getD Q_pos j
      obtain ⟨hi, hhi⟩ : ∃ hi, x / 4294967296 = hi := ⟨_, rfl⟩
      obtain ⟨lo, hlo⟩ : ∃ lo, x % 4294967296 = lo := ⟨_, rfl⟩
      have bQ : x < 18446744073709551616 := by unfold Q at bx; exact bx
      have bh : hi < 4294967296 := by omega
      have bl : lo < 4294967296 := by omega
      have ehi : (x : Int) / 4294967296 = (hi : Int) := by omega
      have elo : bits .and .u64 (x : Int) 4294967295 = (lo : Int) := by rw [← hlo]; exact Mul64.maskN x bQ
      have ewh : IntKind.i64.wrap (hi : Int) = (hi : Int) := IntWalk.i64_in _ (by omega)
      have ewl : IntKind.i64.wrap (lo : Int) = (lo : Int) := IntWalk.i64_in _ (by omega)
      have e2 : Hid (vl Q (xs.drop j) = (P * 4294967296 + hi) * 4294967296 + lo) := hide (by rw [vl_drop Q xs j, ex.out, hP.out]; exact of_word hhi hlo)
      have i1 : (j : Int) < (n : Int) := by omega
      have hPL := len_words Hx.out.1 Dx.out hk
      rw [hP.out] at hPL hown
      obtain ⟨L, hL⟩ : ∃ L, 5 * (n - (j + 1)) = L := ⟨_, rfl⟩
      have bL : L ≤ 5000000000 := by omega
      rw [hL] at hPL
      have IOh := hide (Ic.of hown hPL)
      have IH := hide hhalf
      have BEL := hide hbel
      clear hown hhalf hbel hx2 hPL hhi hlo bQ bx hL hP hbb
      go_wp2_with fail
      go_region_held3 (fun w' => w'.cell? ⟨b, o + j, none⟩ = some (.int .u64 (x : Int))) (first | exact hcx | assumption)
        (first
          | (go_at_call 44; refine (of_mul (by exact IOh.out) (by exact IH.out) (by exact hcx) (by omega)).mono ?_; rintro e w3 ⟨r, rfl, hc3, ir3, ih3, hb3⟩)
          | (go_at_call 42; refine (of_small (by exact ir3) (by exact ih3) (by exact hc3) bh).mono ?_; rintro e w4 ⟨s, rfl, hc4, is4, ir4, ih4, hb4⟩)
          | (go_at_call 43; refine (of_add (by exact ir4) (by exact is4) (by exact ih4) (by exact hc4) (by omega) (by omega)).mono ?_; rintro e w5 ⟨v5, rfl, hc5, ho5, io5, ih5, hb5⟩))
      have OB5 := hide hb5
      have B5 : Hid (Below wr.heap.size wr w5) := hide (below_of_drew ((hb3.trans (hb4.mono hb3.size)).trans (hb5.mono (Nat.le_trans hb3.size hb4.size))))
      have IO5 := hide io5
      have IH5 := hide ih5
      clear hb3 hb4 hb5 hc3 hc4 ir3 ih3 is4 ir4 ih4 ho5 io5 ih5 IOh IH
      go_wp2_with fail
      go_region_held3 (fun w' => w'.cell? ⟨b, o + j, none⟩ = some (.int .u64 (x : Int))) (first | exact hc5 | assumption)
        (first
          | (go_at_call 44; refine (of_mul (by exact IO5.out) (by exact IH5.out) (by exact hc5) (by omega)).mono ?_; rintro e w3 ⟨r, rfl, hc3, ir3, ih3, hb3⟩)
          | (go_at_call 42; refine (of_small (by exact ir3) (by exact ih3) (by exact hc3) bl).mono ?_; rintro e w4 ⟨s, rfl, hc4, is4, ir4, ih4, hb4⟩)
          | (go_at_call 43; refine (of_add (by exact ir4) (by exact is4) (by exact ih4) (by exact hc4) (by omega) (by omega)).mono ?_; rintro e w6 ⟨v6, rfl, hc6, ho6, io6, ih6, hb6⟩))
      have B6 : Below wr.heap.size wr w6 := B5.out.trans ((below_of_drew ((hb3.trans (hb4.mono hb3.size)).trans (hb6.mono (Nat.le_trans hb3.size hb4.size)))).mono B5.out.size)
      have fin : OfRel 3 w n xs half v6 (.int .i64 ((j : Int) - 1)) w6 := by
        refine ⟨j, by omega, rfl, ?_, ih6, BEL.out.trans (B6.mono BEL.out.size)⟩
        rw [e2.out]
        refine ho6.mono ?_
        have h1 := BEL.out.size
        have h2 := B5.out.size
        have h3 := hb3.size
        have h4 := hb4.size
        first | omega | (simp at h3; omega)
      clear hb3 hb4 hc3 hc4 ir3 ih3 is4 ir4 ih4 B6 hb6 ho6 io6 ih6 hc6 IO5 IH5 B5 OB5 BEL e2
      go_wp2_with fail
      go_roundw
      case rel => exact fin
      case measure => simp [intOf]
end Go.Proofs.YtajjpepjbflojaaGreatDoor

/-
  The document's own answer: a number's decimal digits.
-/

namespace Go.Proofs.YtajjpepjbflojaaGreatDoor
open Go.RowKit Go.Proofs.YtajjpepjbflojaaGreatDoor.Num
set_option linter.unusedVariables false
set_option maxRecDepth 100000

def TxRel (t : TypeId) (w w1 : World) (m : Nat) (xs : List Nat) (bv iv : Value) (wr : World) : Prop :=
  ∃ (i : Nat) (ds : List Nat), i ≤ m ∧ iv = .int .i64 (i : Int) ∧ Hid (ds.length = 4 * i) ∧ Hid (Dg 10 ds) ∧ Hid (vl 10 ds = vl 10000 (xs.take i)) ∧ Own .u8 t wr w.heap.size bv (dch ds).reverse ∧
    Below w1.heap.size w1 wr ∧ Below w.heap.size w wr
def TyRel (t : TypeId) (w w1 : World) (x : Nat) (ds : List Nat) (bv nv kv : Value) (wr : World) : Prop :=
  ∃ (k g : Nat) (es : List Nat), k ≤ 4 ∧ kv = .int .i64 (k : Int) ∧ nv = .int .i64 (g : Int) ∧ g ≤ 9999 ∧ Hid (es.length = k) ∧ Hid (Dg 10 es) ∧ Hid (vl 10 es + 10 ^ k * g = x) ∧
    Own .u8 t wr w.heap.size bv (dch (ds ++ es)).reverse ∧ Below w1.heap.size w1 wr ∧ Below w.heap.size w wr

theorem places4 {i x : Nat} {ds es xs : List Nat} (hd : ds.length = 4 * i) (hv : vl 10 ds = vl 10000 (xs.take i)) (he : vl 10 es = x) (hx : xs.getD i 0 = x) : vl 10 (ds ++ es) = vl 10000 (xs.take (i + 1)) := by
  rw [vl_append, hd, hv, he, vl_take_succ, hx, Nat.pow_mul]

theorem rev_at (ds : List Nat) (j : Nat) (h : j < ds.length) : (dch ds).reverse.getD j 0 = ds.getD (ds.length - 1 - j) 0 + 48 := by
  simp only [List.getD_eq_getElem?_getD]
  rw [List.getElem?_reverse (by rw [dch_len]; exact h), dch_len]
  unfold dch
  rw [List.getElem?_map, List.getElem?_eq_getElem (by omega)]
  rfl
theorem take_at (ds : List Nat) (r j : Nat) (h : j < r) : (ds.take r).getD j 0 = ds.getD j 0 := by
  simp [List.getD_eq_getElem?_getD, h]
theorem tz_take_pos (ds : List Nat) (r : Nat) (h : r < ds.length) (hd : ds.getD r 0 ≠ 0) : tz (ds.take (r + 1)) = ds.take (r + 1) := by
  have h1 := tz_step_pos ds r h hd
  have h2 := tz_take (ds.take (r + 1))
  rw [h1, List.take_take, Nat.min_self] at h2
  exact h2
theorem tz_ne_zero {ds : List Nat} {X : Nat} (dd : Dg 10 ds) (h : vl 10 ds = X) : (tz ds = [] → X = 0) := by
  intro h1
  rw [← h, ← tz_vl, h1]; rfl

set_option maxHeartbeats 4000000 in
theorem rtext_any {w : World} {u : Value} {X L : Nat} (hu : Iw w u X L) (hL : L ≤ 100000000000) : Calls Tryz.prog 23 #[u] w (TextRet w X) := by
  obtain ⟨i0, hi, hz0, hz1, hz2⟩ := info_parts info_u8
  have HXL := hide hu.lt
  have U := hide hu
  clear hu
  go_enter Tryz.func23, Tryz.ntmps23
  go_wp2_with fail
  have a0 : Hid (Below w.heap.size w (w.alloc (.cells #[] 5))) := hide ((Below.refl _ _).alloc (Nat.le_refl _) _)
  refine (itrim (U.out.step a0.out) (by omega)).mono ?_
  rintro e w1 ⟨x0, rfl, ox, ⟨A, c, hx0, rx, hlx⟩, b1⟩
  subst hx0
  have start : TxRel 5 w w1 (cn 10000 X).length (cn 10000 X) (.slice (some ⟨w.heap.size, 0, none⟩) 0 0) (.int .i64 0) w1 :=
    ⟨0, [], Nat.zero_le _, rfl, hide rfl, hide Dg.nil, hide (by simp [vl]), (own_empty .u8 5 w w.heap.size (Nat.le_refl _)).below b1 (Nat.le_refl _), Below.refl _ _, a0.out.trans (b1.mono a0.out.size)⟩
  have hX : Hid (vl 10000 (cn 10000 X) = X) := hide (vl_cn B_two X)
  have Dx := hide (dg_cn B_two X)
  obtain ⟨xs, hxs⟩ : ∃ xs, cn 10000 X = xs := ⟨_, rfl⟩
  rw [hxs] at start rx hlx hX Dx ⊢
  obtain ⟨m, hm⟩ : ∃ m, xs.length = m := ⟨_, rfl⟩
  rw [hm] at start rx hlx ⊢
  have hmb : m ≤ 100000000000 := by omega
  have RX := hide rx
  clear U a0 ox b1 hlx rx hxs hm HXL
  go_wp2_with fail
  go_loopw [3, 5] (fun bv iv wr => TxRel 5 w w1 m xs bv iv wr) (fun _ iv _ => m - (intOf iv).toNat)
  case atStart => exact start
  case round =>
    obtain ⟨i, ds, hi', rfl, hdl, dd, hv, hown, hb1, hbel⟩ := hrel
    clear start
    by_cases hlt : i < m
    · obtain ⟨x, ex⟩ : ∃ x, Hid (xs.getD i 0 = x) := ⟨_, hide rfl⟩
      have bx : x ≤ 9999 := by have := Dx.out.getD (by omega) i; rw [ex.out] at this; omega
      have rx2 := RX.out.below hb1 (Nat.le_refl _)
      obtain ⟨b, o, rfl, hbb, hcx⟩ := rx2.at_ hlt
      rw [ex.out] at hcx
      have st : TyRel 5 w w1 x ds u3 (.int .i64 (x : Int)) (.int .i64 0) wr := ⟨0, x, [], by omega, rfl, rfl, bx, hide rfl, hide Dg.nil, hide (by simp [vl]), by rw [List.append_nil]; exact hown, hb1, hbel⟩
      clear hown hb1 hbel rx2 hbb
      go_wp2_with fail
      go_loopw [3, 6, 7] (fun bv nv kv wr => TyRel 5 w w1 x ds bv nv kv wr) (fun _ _ kv _ => 4 - (intOf kv).toNat)
      case atStart => exact st
      case round =>
        obtain ⟨k, g, es, hk, rfl, rfl, hg, hel, de, hev, hown, hb1, hbel⟩ := hrel
        clear st hcx
        by_cases hk4 : k < 4
        · obtain ⟨d, hd⟩ : ∃ d, g % 10 = d := ⟨_, rfl⟩
          obtain ⟨g2, hg2⟩ : ∃ g2, g / 10 = g2 := ⟨_, rfl⟩
          have er : Int.tmod (g : Int) 10 = (d : Int) := by rw [← hd]; exact (Int.ofNat_tmod g 10).symm
          have eq : Int.tdiv (g : Int) 10 = (g2 : Int) := by rw [← hg2]; exact (Int.ofNat_tdiv g 10).symm
          obtain ⟨y, hy⟩ : ∃ y, y = d + 48 := ⟨_, rfl⟩
          have e4 : (48 : Int) + (d : Int) = (y : Int) := by omega
          have hd9 : d ≤ 9 := by omega
          have hy57 : (y : Int) ≤ 57 := by omega
          have hg2b : g2 ≤ 9999 := by omega
          have hev2 : Hid (vl 10 (es ++ [d]) + 10 ^ (k + 1) * g2 = x) := hide (by
            rw [vl_snoc, hel.out, Nat.pow_succ, Nat.mul_assoc, ← hev.out, Nat.add_assoc, ← Nat.mul_add]
            congr 2
            omega)
          have hrev : Hid (y :: (dch (ds ++ es)).reverse = (dch (ds ++ (es ++ [d]))).reverse) := hide (by
            rw [← List.append_assoc, dch_append (ds ++ es), List.reverse_append, hy]; rfl)
          have hel2 : Hid ((es ++ [d]).length = k + 1) := hide (by simp [hel.out])
          have de2 : Hid (Dg 10 (es ++ [d])) := hide (de.out.append (Dg.cons (by omega) Dg.nil))
          have fin : ∀ v' w', Own .u8 5 w' wr.heap.size v' (y :: (dch (ds ++ es)).reverse) → Below wr.heap.size wr w' → TyRel 5 w w1 x ds v' (.int .i64 (g2 : Int)) (.int .i64 ((k + 1 : Nat) : Int)) w' := by
            intro v' w' ho hb
            rw [hrev.out] at ho
            exact ⟨k + 1, g2, es ++ [d], by omega, rfl, rfl, hg2b, hel2, de2, hev2, ho.mono hbel.size, hb1.trans (hb.mono hb1.size), hbel.trans (hb.mono hbel.size)⟩
          have Hown := hide hown
          have Hlen : Hid ((dch (ds ++ es)).reverse.length + 1 ≤ 17592186044416) := hide (by
            have h1 := hdl.out
            have h2 := hel.out
            rw [List.length_reverse, dch_len, List.length_append]; omega)
          have Fin := hide fin
          clear hown hb1 hbel hd hg2 hy hev hev2 hrev hel de hel2 de2 fin
          go_wp2_with (at_builtin; go_must (refine wpList_cons rfl (.tmp 29) (.tmp 30) 44 rfl Tryz.underlying44 hi hz0 hz1 hz2 rfl wr y _ _ (dch (ds ++ es)).reverse Hown.out rfl rfl Hlen.out (by decide) ?_); intro v' w' ho hb; have fin2 := Fin.out v' w' ho hb; clear ho hb)
          go_roundw
          case rel => exact fin2
          case measure => simp [intOf]; omega
        · obtain rfl : k = 4 := by omega
          have hg0 : g = 0 := by have := hev.out; omega
          subst hg0
          have he := hev.out
          rw [Nat.mul_zero, Nat.add_zero] at he
          have fin : TxRel 5 w w1 m xs u3 (.int .i64 ((i + 1 : Nat) : Int)) wr :=
            ⟨i + 1, ds ++ es, by omega, rfl, hide (by have h1 := hdl.out; have h2 := hel.out; rw [List.length_append]; omega), hide (dd.out.append de.out), hide (places4 hdl.out hv.out he ex.out), hown, hb1, hbel⟩
          clear he hev hel de hown hb1 hbel hv hdl dd
          go_wp2_with fail
          go_roundw
          case rel => exact fin
          case measure => simp [intOf]; omega
    · obtain rfl : i = m := by omega
      have hvX := hv.out
      rw [List.take_of_length_le (by have := RX.out.1; omega), hX.out] at hvX
      have BEL := hide hbel
      rcases hown with ⟨rfl, he⟩ | ⟨g, cap, C, rfl, hB, hr, hC, hcm⟩
      · have h0 : ds = [] := by
          have h1 : (dch ds).reverse.length = 0 := by rw [he]; rfl
          rw [List.length_reverse, dch_len] at h1
          exact List.eq_nil_of_length_eq_zero h1
        have hX0 : X = 0 := by rw [← hvX, h0]; rfl
        have fin : TextRet w X (.returned (.string ⟨#[48]⟩)) wr := ⟨by rw [hX0]; rfl, hbel⟩
        clear he h0 hX0 hvX hv hdl dd hb1 hbel RX hX Dx
        go_wp2_with fail
        go_loop [3] (fun bv => bv = .slice none 0 0) (fun _ => 0)
        case atStart => rfl
        case round =>
          subst hrel
          go_wp2_with fail
          go_ret
          exact fin
      · obtain ⟨cs, _, _, hlc, _⟩ := id hr
        rw [Nat.zero_add] at hlc
        have hcap : (dch ds).reverse.length ≤ cap := by omega
        obtain ⟨N, hN⟩ : ∃ N, ds.length = N := ⟨_, rfl⟩
        have hN2 : (dch ds).reverse.length = N := by rw [List.length_reverse, dch_len, hN]
        have hNb : N ≤ 400000000000 := by have := hdl.out; omega
        have hcm2 : cap ≤ 9223372036854775807 := by unfold maxLen at hcm; omega
        have HR := hide hr
        have e0 : Hid (tz (ds.take N) = tz ds) := hide (by rw [List.take_of_length_le (by omega)])
        have HN := hide hN
        have hHL : Hid ((dch ds).reverse.length = N) := hide hN2
        have VX := hide hvX
        rw [hN2] at hcap ⊢
        clear hlc hr hN hN2 hvX hv hdl hb1 hbel RX hX Dx hC hcm
        go_wp2_with fail
        go_loop [3] (fun bv => ∃ (r c' : Nat) (A' : Option Addr), bv = .slice A' r c' ∧ r ≤ c' ∧ c' ≤ cap ∧ r ≤ N ∧ Hid (0 < r → A' = some ⟨g, N - r, none⟩) ∧ Hid (tz (ds.take r) = tz ds)) (fun bv => lenV bv)
        case atStart => exact ⟨N, cap, _, rfl, hcap, Nat.le_refl _, Nat.le_refl _, hide (fun _ => by rw [Nat.sub_self]), e0⟩
        case round =>
          obtain ⟨r, c', A', rfl, hrc, hcc, hrN, hA, htz⟩ := hrel
          clear e0
          rcases Nat.eq_zero_or_pos r with h0 | h0
          · subst h0
            have hX0 : X = 0 := tz_ne_zero dd.out VX.out (by rw [← htz.out]; rfl)
            have fin : TextRet w X (.returned (.string ⟨#[48]⟩)) wr := ⟨by rw [hX0]; rfl, BEL.out⟩
            clear hX0 htz hA
            go_wp2_with fail
            go_ret
            exact fin
          · obtain ⟨r', rfl⟩ : ∃ r', r = r' + 1 := ⟨r - 1, by omega⟩
            obtain ⟨c2, rfl⟩ : ∃ c2, c' = c2 + 1 := ⟨c' - 1, by omega⟩
            obtain ⟨off, hoff⟩ : ∃ off, N - (r' + 1) = off := ⟨_, rfl⟩
            have hA2 := hA.out (by omega)
            rw [hoff] at hA2
            subst hA2
            obtain ⟨d, hd⟩ : ∃ d, ds.getD r' 0 = d := ⟨_, rfl⟩
            obtain ⟨y, hy⟩ : ∃ y, d + 48 = y := ⟨_, rfl⟩
            have hcell := HR.out.cell (j := off) (by rw [hHL.out]; omega)
            rw [rev_at ds off (by rw [HN.out]; omega), HN.out, show N - 1 - off = r' by omega, hd, hy, Nat.zero_add] at hcell
            by_cases hd0 : d = 0
            · obtain rfl : y = 48 := by omega
              have e2 : Hid (tz (ds.take r') = tz ds) := hide (by rw [← tz_step_zero ds r' (by rw [HN.out]; omega) (by rw [hd, hd0])]; exact htz.out)
              clear htz hA hd hy hd0
              rcases Nat.eq_zero_or_pos r' with h1 | h1
              · subst h1
                go_wp2_with fail
                go_round
                case rel => exact ⟨0, c2, _, rfl, by omega, by omega, by omega, hide (fun h => absurd h (by omega)), e2⟩
                case measure => simp [lenV]
              · have hc2 : ¬ (c2 + 1 = 1) := by omega
                go_wp2_with fail
                go_round
                case rel => exact ⟨r', c2, _, rfl, by omega, by omega, by omega, hide (fun _ => by simp <;> omega), e2⟩
                case measure => simp [lenV]
            · have hb : (((y : Int) != 48)) = true := by rw [bne_iff_ne]; omega
              have e3 : tz ds = ds.take (r' + 1) := by rw [← htz.out]; exact tz_take_pos ds r' (by rw [HN.out]; omega) (by rw [hd]; exact hd0)
              have hne : tz ds ≠ [] := by
                rw [e3]
                intro h
                have := congrArg List.length h
                rw [List.length_take, HN.out] at this
                simp at this
                omega
              have hl3 : (dch (tz ds)).reverse.length = r' + 1 := by rw [List.length_reverse, dch_len, e3, List.length_take, HN.out]; omega
              have hconv : (convert 44 9 (.slice (some ⟨g, off, none⟩) (r' + 1) (c2 + 1))).run Tryz.prog wr = .ok (.string ⟨(dtext X).toArray⟩) wr := by
                rw [← text_str dd.out VX.out hne]
                refine run_convert_bytes_arg (P := Tryz.prog) wr 44 5 Tryz.underlying44 Tryz.underlying5 g off _ (c2 + 1) _ (by rw [List.length_map, hl3]) (fun i hi => ?_) 9 Tryz.underlying9
                have h1 := HR.out.cell (j := off + i) (by rw [hHL.out]; omega)
                rw [rev_at ds (off + i) (by rw [HN.out]; omega), HN.out, Nat.zero_add] at h1
                rw [h1]
                have h2 := rev_at (tz ds) i (by rw [e3, List.length_take, HN.out]; omega)
                rw [e3, List.length_take, HN.out, Nat.min_eq_left (by omega), take_at _ _ _ (by omega), show r' + 1 - 1 - i = N - 1 - (off + i) by omega] at h2
                rw [← h2, ← e3]
                have h4 : i < (dch (tz ds)).reverse.length := by rw [hl3]; omega
                generalize (dch (tz ds)).reverse = zs at *
                simp [List.getD_eq_getElem?_getD, h4]
              have fin : TextRet w X (.returned (.string ⟨(dtext X).toArray⟩)) wr := ⟨rfl, BEL.out⟩
              clear e3 hne hl3 htz hA hd hy hd0 hoff
              go_wp2_with fail
              go_ret
              exact fin
end Go.Proofs.YtajjpepjbflojaaGreatDoor

/-
  The document's greatest common divisor.
-/

namespace Go.Proofs.YtajjpepjbflojaaGreatDoor
open Go.RowKit Go.Proofs.YtajjpepjbflojaaGreatDoor.Num
set_option linter.unusedVariables false
set_option maxRecDepth 100000

def RgRel (t : TypeId) (w : World) (G L : Nat) (gk : Nat) (xv yv : Value) (wr : World) : Prop :=
  ∃ X : Nat, Own .i64 t wr w.heap.size xv (cn 10000 X) ∧ Own .i64 t wr w.heap.size yv (cn 10000 gk) ∧ Hid (Nat.gcd X gk = G) ∧ Hid (X < 10000 ^ L) ∧ Hid (gk < 10000 ^ L) ∧ Below w.heap.size w wr

set_option maxHeartbeats 4000000 in
theorem igcd {w : World} {u v : Value} {x y L : Nat} (hu : Iw w u x L) (hv : Iw w v y L) (hL : L ≤ 100000000000) :
    Calls Tryz.prog 45 #[u, v] w (INew w (Nat.gcd x y) L) := by
  have hxL := hu.lt
  have hyL := hv.lt
  have hGL : Nat.gcd x y < 10000 ^ L := by
    rcases Nat.eq_zero_or_pos x with h | h
    · subst h; rw [Nat.gcd_zero_left]; exact hyL
    · exact Nat.lt_of_le_of_lt (Nat.gcd_le_left _ h) hxL
  obtain ⟨G, hG⟩ : ∃ G, Hid (Nat.gcd x y = G) := ⟨_, hide rfl⟩
  rw [hG.out] at hGL ⊢
  have HGL := hide hGL
  have HX := hide hxL
  have HY := hide hyL
  have V := hide hv
  have U := hide hu
  clear hu hv hxL hyL hGL
  go_enter Tryz.func45, Tryz.ntmps45
  go_wp2_with fail
  refine (itrim U.out (by omega)).mono ?_
  rintro e w1 ⟨xv, rfl, ox, -, b1⟩
  have V := hide (V.out.step b1)
  have B := hide b1
  have OX := hide ox
  clear ox b1 U
  go_wp2_with fail
  refine (itrim V.out (by omega)).mono ?_
  rintro e w2 ⟨yv, rfl, oy, -, b2⟩
  have start : RgRel 3 w G L y xv yv w2 :=
    ⟨x, OX.out.below b2 (Nat.le_refl _), oy.mono B.out.size, hG, HX, HY, B.out.trans (b2.mono B.out.size)⟩
  clear V B OX oy b2
  go_wp2_with fail
  go_loopg [5, 6] y (fun gk xv yv wr => RgRel 3 w G L gk xv yv wr)
  case atStart => exact start
  case round =>
    clear start
    obtain ⟨X, ox, oy, hg, hX, hY, hbel⟩ := hrel
    have cx := Ic.of ox hX.out
    have cy := Ic.of oy hY.out
    by_cases h0 : gk = 0
    · subst h0
      obtain ⟨A, c, hyv, _, _⟩ := cy
      rw [cn_zero, List.length_nil] at hyv
      subst hyv
      have e := hg.out
      rw [Nat.gcd_zero_right] at e
      rw [e] at ox
      have fin : INew w G L (.returned u5) wr := ⟨_, rfl, ox, Ic.of ox HGL.out, hbel⟩
      clear cx hg hX hY HX HY HGL hG oy ox
      go_wp2_with fail
      go_ret
      exact fin
    · obtain ⟨A, c, hyv, _, _⟩ := id cy
      have hpos : 0 < (cn 10000 gk).length := List.length_pos_iff.2 (fun h => h0 ((cn_eq_nil B_two).1 h))
      have dm := hide (idivmod cx cy.iw (Nat.pos_of_ne_zero h0) hL hL)
      have hlt : Hid (X % gk < gk) := hide (Nat.mod_lt _ (Nat.pos_of_ne_zero h0))
      have hg2 : Hid (Nat.gcd gk (X % gk) = G) := hide (by rw [← hg.out, Nat.gcd_comm X gk, Nat.gcd_comm gk (X % gk), ← Nat.gcd_rec gk X])
      have OY := hide oy
      have HB := hide hbel
      subst hyv
      generalize (cn 10000 gk).length = ly at *
      clear cx cy hg ox oy hbel
      go_wp2_with fail
      refine dm.out.mono ?_
      rintro e w3 ⟨q, r, rfl, -, orr, -, cr, b3⟩
      have fin : RgRel 3 w G L (X % gk) (.slice A ly c) r w3 :=
        ⟨gk, OY.out.below b3 (Nat.le_refl _), orr.mono HB.out.size, hg2, hY, hide (Nat.lt_trans hlt.out hY.out), HB.out.trans (b3.mono HB.out.size)⟩
      clear orr cr b3 OY HB dm hg2
      go_wp2_with fail
      go_roundg (X % gk)
      case rel => exact fin
      case measure => exact hlt.out
end Go.Proofs.YtajjpepjbflojaaGreatDoor

/-
  Words for the laws of layer 1: lists as they came in, copied, held against each other.
-/

namespace Go.Proofs.YtajjpepjbflojaaGreatDoor
open Go.RowKit Go.Proofs.YtajjpepjbflojaaGreatDoor.Num
set_option linter.unusedVariables false
set_option maxRecDepth 100000

/-- The value reads as the words xs, at most L. -/
def Lw (w : World) (v : Value) (xs : List Nat) (L : Nat) : Prop :=
  ∃ A n c, v = .slice A n c ∧ Rd .u64 w w.heap.size A n xs ∧ Dg Q xs ∧ n ≤ c ∧ c ≤ maxLen ∧ n ≤ L
theorem Lw.step {w w' : World} {v : Value} {xs : List Nat} {L : Nat} (h : Lw w v xs L) (hb : Below w.heap.size w w') : Lw w' v xs L := by
  obtain ⟨A, n, c, e, h1, h2⟩ := h
  exact ⟨A, n, c, e, (h1.below hb (Nat.le_refl _)).more hb.size, h2⟩
theorem Lw.nw {w : World} {v : Value} {xs : List Nat} {L : Nat} (h : Lw w v xs L) : Nw w v (vl Q xs) L := by
  obtain ⟨A, n, c, e, h1, h2, h3, h4, h5⟩ := h
  exact ⟨A, n, c, xs, e, h1, h2, h3, h4, rfl, h5⟩
theorem Nw.lw {w : World} {v : Value} {x L : Nat} (h : Nw w v x L) : ∃ xs, vl Q xs = x ∧ Lw w v xs L := by
  obtain ⟨A, n, c, xs, e, h1, h2, h3, h4, h5, h6⟩ := h
  exact ⟨xs, h5, A, n, c, e, h1, h2, h3, h4, h6⟩
theorem Lw.of {w : World} {B : Nat} {v : Value} {xs : List Nat} {L : Nat} (h : Own .u64 65 w B v xs) (dx : Dg Q xs) (hL : xs.length ≤ L) : Lw w v xs L := by
  obtain ⟨A, c, rfl, h1, h2, h3, _⟩ := h.form
  exact ⟨A, _, c, rfl, h3, dx, h1, h2, hL⟩
theorem same_l {w : World} {u v : Value} {xs : List Nat} {L M : Nat} (hu : Lw w u xs L) (hv : Lw w v xs M) :
    Calls Tryz.prog 28 #[u, v] w fun e w' => e = .returned (.bool true) ∧ Below w.heap.size w w' := by
  obtain ⟨A, n, c, rfl, hx, _, h1, h2, _⟩ := hu
  obtain ⟨D, m, d, rfl, hy, _, h3, h4, _⟩ := hv
  refine (same_any _ _ A D _ c _ d _ _ w hx hy (by omega) (by omega)).mono fun e w' ⟨he, m, hm⟩ => ⟨by rw [he, sameB_true rfl], ?_⟩
  rw [hm]
  exact below_drewN (Below.refl _ _) m
theorem copy_l {w : World} {u : Value} {xs : List Nat} {L : Nat} (hu : Lw w u xs L) (hL : L ≤ 17592186044000) :
    Calls Tryz.prog 17 #[u] w fun e w' => ∃ r, e = .returned r ∧ Own .u64 65 w' w.heap.size r xs ∧ Lw w' r xs L ∧ Below w.heap.size w w' := by
  obtain ⟨A, n, c, rfl, hx, dx, h1, h2, h3⟩ := hu
  exact (copy_any A n c xs w hx (by omega)).mono fun e w' ⟨r, he, ho, hb⟩ => ⟨r, he, ho, Lw.of ho dx (by rw [hx.1]; exact h3), hb⟩
theorem of_l {w : World} {u : Value} {xs : List Nat} {L : Nat} (hu : Lw w u xs L) (hL : L ≤ 1000000000) :
    Calls Tryz.prog 24 #[u] w (INew w (vl Q xs) (5 * L)) := by
  obtain ⟨A, n, c, rfl, hx, dx, h1, h2, h3⟩ := hu
  refine (rof_any A n c xs w hx dx (by omega)).mono fun e w' h => INew.of h ?_
  have h := len_words hx.1 dx (Nat.zero_le n)
  rw [List.drop_zero, Nat.sub_zero] at h
  exact Nat.lt_of_lt_of_le h (Nat.pow_le_pow_right (by omega) (by omega))
end Go.Proofs.YtajjpepjbflojaaGreatDoor

/-
  The text of a number, and that it is read again.
-/

namespace Go.Proofs.YtajjpepjbflojaaGreatDoor
open Go.RowKit Go.Proofs.YtajjpepjbflojaaGreatDoor.Num
set_option linter.unusedVariables false
set_option maxRecDepth 100000

/-! ### What the digits of a number are as a text -/
theorem u8_digit (d : Nat) (h : d < 10) : (UInt8.ofNat (d + 48)).toNat = d + 48 := by
  have : ∀ e : Fin 10, (UInt8.ofNat (e.val + 48)).toNat = e.val + 48 := by decide
  exact this ⟨d, h⟩
theorem dval_rev : ∀ (ds : List Nat), Dg 10 ds → dval ((ds.map fun d => UInt8.ofNat (d + 48)).reverse) = vl 10 ds
  | [], _ => rfl
  | d :: ds, h => by
    rw [List.map_cons, List.reverse_cons, dval_snoc, dval_rev ds h.tail, u8_digit d h.head]
    simp only [vl]
    omega
theorem dval_dtext (n : Nat) : dval (dtext n) = n := by
  unfold dtext
  split
  · rename_i h; rw [h]; decide
  · rw [dval_rev _ (dg_cn (by omega) n), vl_cn (by omega)]
theorem allDig_dtext (n : Nat) : allDig (dtext n) = true := by
  unfold dtext
  split
  · decide
  · unfold allDig
    rw [List.all_eq_true]
    intro b hb
    rw [List.mem_reverse, List.mem_map] at hb
    obtain ⟨d, hd, rfl⟩ := hb
    have h := dg_cn (B := 10) (by omega) n d hd
    rw [u8_digit d h]
    simp; omega
theorem dtext_ne (n : Nat) : dtext n ≠ [] := by
  unfold dtext
  split
  · simp
  · rename_i h
    intro h1
    rw [List.reverse_eq_nil_iff, List.map_eq_nil_iff] at h1
    exact h ((cn_eq_nil (by omega)).1 h1)
theorem dtext_head (n : Nat) (h : n ≠ 0) (b : UInt8) (l : List UInt8) (e : dtext n = b :: l) : b.toNat ≠ 48 := by
  unfold dtext at e
  rw [if_neg h] at e
  have hne : cn 10 n ≠ [] := fun h1 => h ((cn_eq_nil (by omega)).1 h1)
  have hl := (tz_eq_self_iff (cn 10 n)).1 (tz_cn (by omega) n) _ (List.getLast?_eq_some_getLast hne)
  have hd := dg_cn (B := 10) (by omega) n _ (List.getLast_mem hne)
  have h2 : (cn 10 n) = (cn 10 n).dropLast ++ [(cn 10 n).getLast hne] := (List.dropLast_concat_getLast hne).symm
  rw [h2, List.map_append, List.reverse_append] at e
  simp only [List.map_cons, List.map_nil, List.reverse_cons, List.reverse_nil, List.nil_append, List.cons_append] at e
  injection e with e1 _
  rw [← e1, u8_digit _ hd]
  omega
theorem pcode_dtext (n : Nat) : pcode (dtext n) = if 200 < (dtext n).length then 1 else 0 := by
  unfold pcode
  rw [if_neg (by simp [dtext_ne, allDig_dtext])]
/-- The text of a number. -/
def Tx (S : ByteArray) (n : Nat) : Prop := S.data.toList = dtext n
theorem Tx.of (n : Nat) : Tx ⟨(dtext n).toArray⟩ n := by unfold Tx; simp
theorem Tx.eq {S : ByteArray} {n : Nat} (h : Tx S n) : (⟨(dtext n).toArray⟩ : ByteArray) = S := by
  unfold Tx at h
  cases S with
  | mk d => rw [← h]
theorem text_s {w : World} {u : Value} {x L : Nat} {S : ByteArray} (hu : Nw w u x L) (hS : Tx S x) (hL : L ≤ 1000000000) :
    Calls Tryz.prog 19 #[u] w fun e w' => e = .returned (.string S) ∧ Below w.heap.size w w' := by
  obtain ⟨A, n, c, xs, rfl, hx, dx, h1, h2, rfl, h3⟩ := hu
  exact (text_any A n c xs w hx dx h1 h2 (by omega)).mono fun e w' ⟨he, hb⟩ => ⟨by rw [he, hS.eq], hb⟩
theorem rtext_s {w : World} {u : Value} {x L : Nat} {S : ByteArray} (hu : Iw w u x L) (hS : Tx S x) (hL : L ≤ 100000000000) :
    Calls Tryz.prog 23 #[u] w fun e w' => e = .returned (.string S) ∧ Below w.heap.size w w' :=
  (rtext_any hu hL).mono fun e w' ⟨he, hb⟩ => ⟨by rw [he, hS.eq], hb⟩
theorem parse_long {w : World} {x : Nat} {S : ByteArray} (hS : Tx S x) (hl : 200 < S.size) (hm : S.size ≤ 9223372036854775807) :
    Calls Tryz.prog 71 #[.string S] w fun e w' => e = .returned (.tuple #[.slice none 0 0, .int .i64 1]) ∧ Below w.heap.size w w' := by
  have hc : pcode S.data.toList = 1 := by
    rw [show S.data.toList = dtext x from hS, pcode_dtext, if_pos]
    rw [← show S.data.toList = dtext x from hS, Array.length_toList]; exact hl
  refine (parse_any S w hm).mono fun e w' ⟨h1, _, hb⟩ => ⟨?_, hb⟩
  have h := h1 (by rw [hc]; omega)
  rw [hc] at h
  exact h
theorem parse_short {w : World} {x L : Nat} {S : ByteArray} (hS : Tx S x) (hl : S.size ≤ 200) (hL : x < Q ^ L) :
    Calls Tryz.prog 71 #[.string S] w fun e w' => ∃ v, e = .returned (.tuple #[v, .int .i64 0]) ∧ Own .u64 65 w' w.heap.size v (cn Q x) ∧ Cw w' v x L ∧ Below w.heap.size w w' := by
  have hc : pcode S.data.toList = 0 := by
    rw [show S.data.toList = dtext x from hS, pcode_dtext, if_neg]
    rw [← show S.data.toList = dtext x from hS, Array.length_toList]
    show ¬ 200 < S.size
    omega
  refine (parse_any S w (by omega)).mono fun e w' ⟨_, h2, hb⟩ => ?_
  obtain ⟨v, he, ho⟩ := h2 hc
  rw [show S.data.toList = dtext x from hS, dval_dtext] at ho
  exact ⟨v, he, ho, Cw.of ho hL, hb⟩
/-- The digits of a number of at most 90 words are no more than 1800. -/
theorem dtext_len {n L : Nat} (h : n < Q ^ L) : (dtext n).length ≤ 20 * L + 1 := by
  unfold dtext
  split
  · simp
  · rw [List.length_reverse, List.length_map]
    have h2 : Q ^ L ≤ (10 ^ 20) ^ L := Nat.pow_le_pow_left (by unfold Q; omega) L
    rw [← Nat.pow_mul] at h2
    have := cn_length_le (B := 10) (by omega) (Nat.lt_of_lt_of_le h h2)
    omega
end Go.Proofs.YtajjpepjbflojaaGreatDoor

/-
  nat.Parse of a text that is cut out of another one.
-/

namespace Go.Proofs.YtajjpepjbflojaaGreatDoor
open Go.RowKit Go.Proofs.YtajjpepjbflojaaGreatDoor.Num
set_option linter.unusedVariables false
set_option maxRecDepth 100000

/-! ### The one text of a number -/
theorem u8_back (b : UInt8) (h : 48 ≤ b.toNat) : UInt8.ofNat (b.toNat - 48 + 48) = b := by
  rw [Nat.sub_add_cancel h, UInt8.ofNat_toNat]
theorem back_map : ∀ (l : List UInt8), allDig l = true → ((l.map fun b => b.toNat - 48).map fun d => UInt8.ofNat (d + 48)) = l
  | [], _ => rfl
  | b :: l, h => by
    have h1 := allDig_mem h (List.mem_cons_self)
    have h2 : allDig l = true := by
      unfold allDig at h ⊢
      rw [List.all_cons, Bool.and_eq_true] at h
      exact h.2
    rw [List.map_cons, List.map_cons, back_map l h2, u8_back b h1.1]
theorem one_text {l : List UInt8} (hd : allDig l = true) (hne : l ≠ []) (h : l.length = 1 ∨ ∀ b r, l = b :: r → b.toNat ≠ 48) : dtext (dval l) = l := by
  have h1 := back_map l hd
  obtain ⟨es, hes⟩ : ∃ es, l.map (fun b => b.toNat - 48) = es := ⟨_, rfl⟩
  rw [hes] at h1
  have dg : Dg 10 es.reverse := by
    intro x hx
    rw [List.mem_reverse, ← hes, List.mem_map] at hx
    obtain ⟨b, hb, rfl⟩ := hx
    have := allDig_mem hd hb
    omega
  have hv := dval_rev es.reverse dg
  rw [List.map_reverse, List.reverse_reverse, h1] at hv
  cases hl : l with
  | nil => exact absurd hl hne
  | cons b r =>
    have hb := allDig_mem hd (b := b) (by rw [hl]; exact List.mem_cons_self)
    have he : es = (b.toNat - 48) :: (r.map fun b => b.toNat - 48) := by rw [← hes, hl]; rfl
    by_cases h48 : b.toNat = 48
    · rcases h with h | h
      · rw [hl] at h
        have hr : r = [] := List.eq_nil_of_length_eq_zero (by simpa using h)
        subst hr
        have hb2 : b = 48 := by rw [← UInt8.toNat_inj, h48]; rfl
        rw [hb2]; rfl
      · exact absurd h48 (h b r hl)
    · have htz : tz es.reverse = es.reverse := by
        rw [he, List.reverse_cons]
        exact tz_append_pos _ (by omega)
      have hcn : cn 10 (dval l) = es.reverse := by rw [hv, cn_vl (by omega) dg, htz]
      have hv0 : dval l ≠ 0 := by
        intro h0
        rw [h0, cn_zero] at hcn
        rw [he] at hcn
        simp at hcn
      rw [← hl]
      unfold dtext
      rw [if_neg hv0, hcn, List.map_reverse, List.reverse_reverse, h1]
theorem dval_zero_head (b : UInt8) (l : List UInt8) (h : b.toNat = 48) : dval (b :: l) = dval l := by
  unfold dval
  rw [List.foldl_cons, h]
theorem cut_one (S : ByteArray) (b : UInt8) (l : List UInt8) (h : S.data.toList = b :: l) : (S.extract 1 S.size).data.toList = l := by
  rw [ByteArray.data_extract]
  have h1 : S.size = S.data.toList.length := by rw [Array.length_toList]; rfl
  simp [h1, h]
theorem nparse_err {w : World} {s : ByteArray} {c : Nat} (hc : pcode s.data.toList = c) (h0 : c ≠ 0) (hm : s.size ≤ 9223372036854775807) :
    Calls Tryz.prog 71 #[.string s] w fun e w' => e = .returned (.tuple #[.slice none 0 0, .int .i64 (c : Int)]) ∧ Below w.heap.size w w' := by
  refine (parse_any s w hm).mono fun e w' ⟨h1, _, hb⟩ => ⟨?_, hb⟩
  have h := h1 (by rw [hc]; exact h0)
  rw [hc] at h
  exact h
theorem nparse_ok {w : World} {s : ByteArray} {x L : Nat} (hc : pcode s.data.toList = 0) (hx : dval s.data.toList = x) (hL : x < Q ^ L) (hm : s.size ≤ 9223372036854775807) :
    Calls Tryz.prog 71 #[.string s] w fun e w' => ∃ v, e = .returned (.tuple #[v, .int .i64 0]) ∧ Own .u64 65 w' w.heap.size v (cn Q x) ∧ Cw w' v x L ∧ Below w.heap.size w w' := by
  refine (parse_any s w hm).mono fun e w' ⟨_, h2, hb⟩ => ?_
  obtain ⟨v, he, ho⟩ := h2 hc
  rw [hx] at ho
  exact ⟨v, he, ho, Cw.of ho hL, hb⟩
theorem cw_nil (w : World) : Cw w (.slice none 0 0) 0 0 := ⟨none, 0, by rw [cn_zero]; rfl, by rw [cn_zero]; exact Rd.nil, by rw [cn_zero]; simp, by simp [maxLen], by rw [cn_zero]; simp⟩
end Go.Proofs.YtajjpepjbflojaaGreatDoor

/-
  Small things behind products and trims.
-/

namespace Go.Proofs.YtajjpepjbflojaaGreatDoor
open Go.RowKit Go.Proofs.YtajjpepjbflojaaGreatDoor.Num
set_option linter.unusedVariables false
set_option maxRecDepth 100000

theorem mul_b {w : World} {u v : Value} {x y L M K : Nat} (hu : Nw w u x L) (hv : Nw w v y M) (hL : L ≤ 17592186044416) (hM : M ≤ 17592186044416) (hK : x * y < Q ^ K) :
    Calls Tryz.prog 73 #[u, v] w fun e w' => ∃ r, e = .returned r ∧ Own .u64 65 w' w.heap.size r (cn Q (x * y)) ∧ Cw w' r (x * y) K ∧ Below w.heap.size w w' :=
  (mul_n hu hv hL hM).mono fun e w' ⟨r, he, ho, _, hb⟩ => ⟨r, he, ho, Cw.of ho hK, hb⟩
theorem ntrim_zero {w : World} {u : Value} {L : Nat} (hu : Nw w u 0 L) (hL : L ≤ 17592186044000) :
    Calls Tryz.prog 34 #[u] w fun e w' => ∃ A c, e = .returned (.slice A 0 c) ∧ Below w.heap.size w w' := by
  refine (ntrim_n hu hL).mono fun e w' ⟨r, he, _, hc, hb⟩ => ?_
  obtain ⟨A, c, rfl, _⟩ := hc
  exact ⟨A, c, by rw [he, cn_zero]; rfl, hb⟩
theorem one_lit (w : World) : Nw (w.alloc (.cells #[.int .u64 1] 65)) (.slice (some ⟨w.heap.size, 0, none⟩) 1 1) 1 1 :=
  ⟨_, 1, 1, [1], rfl, Rd.lit1 .u64 w 65 1, Dg.cons (by unfold Q; omega) Dg.nil, Nat.le_refl _, by simp [maxLen], by simp [vl], Nat.le_refl _⟩
end Go.Proofs.YtajjpepjbflojaaGreatDoor

/-
  nat.Gcd: exact, for all lists of words.
-/

namespace Go.Proofs.YtajjpepjbflojaaGreatDoor
open Go.RowKit Go.Proofs.YtajjpepjbflojaaGreatDoor.Num
set_option linter.unusedVariables false
set_option maxRecDepth 100000

/-- What the loop holds: two numbers of the call's own, in order, with the divisor that is sought; the number of the rounds to come is less than their sum. -/
def GgRel (w : World) (G L gk : Nat) (av bv : Value) (wr : World) : Prop :=
  ∃ u v : Nat, gk = u + v ∧ Own .u64 65 wr w.heap.size av (cn Q u) ∧ Own .u64 65 wr w.heap.size bv (cn Q v) ∧ v ≤ u ∧ Hid (Nat.gcd u v = G) ∧ Hid (u < Q ^ L) ∧
    (∀ g, av.ownBlock = some g → bv.ownBlock ≠ some g) ∧ Below w.heap.size w wr

theorem cn_long {v : Nat} (h : Q ≤ v) : ∃ j, (cn Q v).length = j + 2 := by
  rw [cn_pos Q_two (by have := Q_pos; omega), cn_pos (n := v / Q) Q_two (by have := Nat.div_pos h Q_pos; omega)]
  exact ⟨(cn Q (v / Q / Q)).length, by simp⟩
theorem cn_top {u k : Nat} (h : (cn Q u).length = k + 2) : (cn Q u).getD (k + 1) 0 ≠ 0 := top_of_tz (tz_cn Q_two u) h
theorem cn_len {v u : Nat} (h : v ≤ u) : (cn Q v).length ≤ (cn Q u).length := cn_length_le Q_two (Nat.lt_of_le_of_lt h (lt_of_cn_length Q_two (Nat.le_refl _)))

/-- What stands in a leap's block. -/
theorem leap_cells {w : World} {g p0 p1 q0 q1 : Nat} {odd : Bool} (h : w.heap[g]? = some (lblk odd p0 p1 q0 q1)) :
    w.cell? ⟨g, 0, none⟩ = some (.bool odd) ∧ w.cell? ⟨g, 1, none⟩ = some (.int .u64 (p0 : Int)) ∧ w.cell? ⟨g, 2, none⟩ = some (.int .u64 (p1 : Int)) ∧ w.cell? ⟨g, 3, none⟩ = some (.int .u64 (q0 : Int)) ∧ w.cell? ⟨g, 4, none⟩ = some (.int .u64 (q1 : Int)) :=
  ⟨cell_of_row w g 0 _ _ _ h, cell_of_row w g 1 _ _ _ h, cell_of_row w g 2 _ _ _ h, cell_of_row w g 3 _ _ _ h, cell_of_row w g 4 _ _ _ h⟩

set_option maxHeartbeats 8000000 in
theorem gcd_n {w : World} {a b : Value} {x y L : Nat} (hu : Nw w a x L) (hv : Nw w b y L) (hL : L ≤ 17592186044000) :
    Calls Tryz.prog 74 #[a, b] w (OwnRet .u64 65 w (cn Q (Nat.gcd x y))) := by
  have hxL := hide hu.lt
  have hyL := hide hv.lt
  have t1 := hide (ntrim_n hu hL)
  have HV := hide hv
  obtain ⟨G, hG⟩ : ∃ G, Hid (Nat.gcd x y = G) := ⟨_, hide rfl⟩
  rw [hG.out]
  have hst : ∃ s : Int, Hid (cmpN x y = s) ∧ ((s < 0 ∧ x < y) ∨ (0 ≤ s ∧ y ≤ x)) := by
    refine ⟨_, hide rfl, ?_⟩
    rcases Nat.lt_trichotomy x y with h | h | h
    · rw [cmpN_lt h]; left; omega
    · subst h; rw [cmpN_eq]; right; omega
    · rw [cmpN_gt h]; right; omega
  obtain ⟨s, hse, hcase⟩ := hst
  clear hu hv
  rcases hcase with ⟨hs, hxy⟩ | ⟨hs, hxy⟩
  all_goals
    go_enter Tryz.func74, Tryz.ntmps74
    go_wp2_with fail
    refine t1.out.mono ?_
    rintro e w1 ⟨va, rfl, oa, ca, b1⟩
    have t2 := hide (ntrim_n (HV.out.step b1) hL)
    have OA := hide oa
    have CA := hide ca
    have B1 := hide b1
    clear oa ca b1
    go_wp2_with fail
    refine t2.out.mono ?_
    rintro e w2 ⟨vb, rfl, ob, cb, b2⟩
    have hne : ∀ g, va.ownBlock = some g → vb.ownBlock ≠ some g := by
      intro g h1 h2
      have o1 := OA.out
      rcases o1 with ⟨rfl, _⟩ | ⟨g1, _, _, rfl, _, r1, _⟩
      · simp [Value.ownBlock] at h1
      · rcases ob with ⟨rfl, _⟩ | ⟨g2, _, _, rfl, hg2, _, _⟩
        · simp [Value.ownBlock] at h2
        · have := r1.lt
          simp [Value.ownBlock] at h1 h2
          omega
    have oa2 : Own .u64 65 w2 w.heap.size va (cn Q x) := OA.out.below b2 (Nat.le_refl _)
    have ob2 : Own .u64 65 w2 w.heap.size vb (cn Q y) := ob.mono B1.out.size
    have B2 := hide (B1.out.trans (b2.mono B1.out.size))
    have CM := hide (cmp_n (CA.out.step b2).nw cb.nw (by omega) (by omega))
    have stA : x < y → GgRel w G L (x + y) vb va w2 := fun h => ⟨y, x, Nat.add_comm _ _, ob2, oa2, Nat.le_of_lt h, hide (by rw [Nat.gcd_comm]; exact hG.out), hyL, fun g h1 h2 => hne g h2 h1, B2.out⟩
    have stB : y ≤ x → GgRel w G L (x + y) va vb w2 := fun h => ⟨x, y, rfl, oa2, ob2, h, hG, hxL, hne, B2.out⟩
    have StA := hide stA
    have StB := hide stB
    clear stA stB ob cb b2 oa2 ob2 hne OA CA B1 B2 t1 t2 HV hG
    go_wp2_with fail
    refine CM.out.mono ?_
    rw [hse.out]
    rintro e w_ ⟨rfl, rfl⟩
    clear CM
    go_wp2_with fail
    go_loopg [0, 1] (x + y) (fun gk av bv wr => GgRel w G L gk av bv wr)
    case atStart => first | exact StA.out hxy | exact StB.out hxy
    case round =>
      clear StA StB hxy hs hse hxL hyL
      obtain ⟨u, v, rfl, ou, ov, hvu, hg, hL2, hne, hbel⟩ := hrel
      by_cases hv : v < Q
      · by_cases h0 : v = 0
        · subst h0
          obtain ⟨R, cr, hR, -, -, -, -⟩ := ov.form
          rw [cn_zero, List.length_nil] at hR
          subst hR
          have e := hg.out
          rw [Nat.gcd_zero_right] at e
          rw [e] at ou
          clear ov hne hg hvu hL2
          go_wp2_with fail
          go_ret
          exact ⟨_, rfl, ou, hbel⟩
        · obtain ⟨R, cr, hR, hl1, hl2, rv, pv⟩ := ov.form
          have e1 : cn Q v = [v] := by rw [← cn_single hv, tz]; simp [tz, h0]
          rw [e1] at hR rv ov
          simp only [List.length_cons, List.length_nil, Nat.zero_add] at hR rv
          subst hR
          obtain ⟨b, o, rfl, hbb, hc⟩ := rv.at_ (show 0 < 1 by omega)
          simp only [List.getD_cons_zero, Nat.add_zero] at hc
          have hrQ : u % v < Q := Nat.lt_trans (Nat.mod_lt _ (by omega)) hv
          have hgcd : Hid (Nat.gcd v (u % v) = G) := hide (by rw [← hg.out, Nat.gcd_comm u v, Nat.gcd_comm v (u % v), ← Nat.gcd_rec v u])
          have hdw : ∀ W, Below wr.heap.size wr W → Calls Tryz.prog 36 #[u0, .int .u64 (v : Int)] W (fun e w' => e = .returned (.int .u64 ((u % v : Nat) : Int)) ∧ w'.cell? ⟨b, o, none⟩ = some (.int .u64 (v : Int)) ∧ Below w.heap.size w w') := by
            intro W hW
            have ou2 := ou.below hW (Nat.le_refl _)
            have h := divWord_own w.heap.size v u0 _ W ou2 (dg_cn Q_two _) (by omega) hv
            rw [vl_cn Q_two] at h
            refine h.mono fun e w' ⟨us, he, _, du, hvu2, ho2, hgr⟩ => ⟨he, ?_, ?_⟩
            · refine (World.cell?_of_block (hgr.block b (Nat.lt_of_lt_of_le hbb hW.size) ?_)).trans ((hW.cell hbb).trans hc)
              intro h3
              exact hne b h3.symm rfl
            · exact push_below (hbel.trans (hW.mono hbel.size)) ou2 hgr (Nat.le_trans hbel.size hW.size)
          have hGp : Hid (cn Q G = [G]) := hide (by
            have h1 : 0 < G := by rw [← hgcd.out]; exact Nat.gcd_pos_of_pos_left _ (by omega)
            have h2 : G ≤ v := by rw [← hgcd.out]; exact Nat.gcd_le_left _ (by omega)
            rw [← cn_single (show G < Q by omega)]; simp [tz]; omega)
          clear rv pv hl1 hl2 hne hg hvu e1 hL2
          go_wp2_with fail
          go_region_held3 (fun w' => w'.cell? ⟨b, o, none⟩ = some (.int .u64 (v : Int))) (first | exact hc | assumption | exact (World.cell?_alloc_lt _ _ _ (World.block_lt_of_cell? _ _ hc3)).trans hc3)
            (first
              | (go_at_call 36; refine (hdw _ (by first | exact Below.refl _ _ | exact (Below.refl _ _).drew | exact below_drewN (Below.refl _ _) _)).mono ?_; rintro e w3 ⟨rfl, hc3, hb3⟩)
              | (go_at_call 96; refine (gcdWord_any v (u % v) _ hv hrQ).mono ?_; rintro e w4 ⟨rfl, k4, rfl⟩))
          go_wp2_with fail
          go_ret
          rw [hgcd.out]
          refine ⟨_, rfl, ?_, (below_drewN hb3 k4).alloc hb3.size _⟩
          rw [hGp.out]
          exact Own.of_row (Row.new _ .u64 65 #[.int .u64 (G : Int)] [G] (Nat.le_refl _) (fun j hj => by
            match j, hj with
            | 0, _ => rfl)) hb3.size rfl (by simp [maxLen])
      · obtain ⟨j, hj⟩ := cn_long (Nat.le_of_not_lt hv)
        obtain ⟨k, hk⟩ := cn_long (Nat.le_trans (Nat.le_of_not_lt hv) hvu)
        have cu := Cw.of ou hL2.out
        have cv := Cw.of ov (Nat.lt_of_le_of_lt hvu hL2.out)
        have hjk : j ≤ k := by have := cn_len hvu; omega
        have hkL : k + 2 ≤ L := by rw [← hk]; exact cn_length_le Q_two hL2.out
        obtain ⟨Au, ca, hua, -, -, ru, -⟩ := ou.form
        obtain ⟨Av, cb, hvb, -, -, rv, -⟩ := ov.form
        have FL := hide (find_any Au Av k ca (j + 2) cb (cn Q u) (cn Q v) wr (by rw [← hk]; exact ru) (by rw [← hj]; exact rv) (dg_cn Q_two u) (dg_cn Q_two v) (by omega) (by omega) (cn_top hk) (by rw [vl_cn Q_two, vl_cn Q_two]; exact hvu))
        rw [vl_cn Q_two, vl_cn Q_two] at FL
        rw [hk] at hua
        rw [hj] at hvb
        subst hua hvb
        have CU := hide cu
        have CV := hide cv
        have OU := hide ou
        have OV := hide ov
        have HB := hide hbel
        have HN := hide hne
        clear cu cv ou ov hbel hne ru rv hk hj
        go_wp2_with fail
        refine FL.out.mono ?_
        rintro e w3 ⟨odd, p0, p1, q0, q1, rfl, h0, h1, h2, h3, hA, b3⟩
        have W4 : Below w3.heap.size w3 (w3.alloc (lblk odd p0 p1 q0 q1)) := (Below.refl _ _).alloc (Nat.le_refl _) _
        have hl := heap_alloc_new w3 (lblk odd p0 p1 q0 q1)
        have B4 := Below.step b3 b3.size W4
        have hsz : wr.heap.size ≤ w3.heap.size := b3.size
        clear FL W4 b3
        go_wp2_with fail
        refine (far_any odd p0 p1 q0 q1 _).mono ?_
        rintro e w4 ⟨rfl, b4⟩
        have B5 := Below.step B4 B4.size b4
        have hl4 := (b4.block w3.heap.size (by simp)).trans hl
        have CU4 := hide (CU.out.step B5)
        have CV4 := hide (CV.out.step B5)
        have OU4 := hide (OU.out.below B5 (Nat.le_refl _))
        have OV4 := hide (OV.out.below B5 (Nat.le_refl _))
        have HB4 := hide (Below.step HB.out HB.out.size B5)
        clear B4 B5 b4 hl CU CV OU OV HB hsz
        by_cases hp : p1 = 0
        · have tp : decide (p1 ≠ 0) = false := decide_eq_false (by simpa using hp)
          rw [tp]
          have hvp : 0 < v := by have := Q_pos; omega
          have DM := hide (ndivmod CU4.out.nw CV4.out.nw hL hvp)
          have hlt : Hid (v + u % v < u + v) := hide (by have := Nat.mod_lt u hvp; omega)
          have hg2 : Hid (Nat.gcd v (u % v) = G) := hide (by rw [← hg.out, Nat.gcd_comm u v, Nat.gcd_comm v (u % v), ← Nat.gcd_rec v u])
          have hle2 : Hid (u % v ≤ v) := hide (Nat.le_of_lt (Nat.mod_lt _ hvp))
          have hvL : Hid (v < Q ^ L) := hide (Nat.lt_of_le_of_lt hvu hL2.out)
          have hlt3 : Hid (∀ g, (Value.slice Av (j + 2) cb).ownBlock = some g → g < w4.heap.size) := hide (fun g hgg => by
            rcases OV4.out with ⟨h, _⟩ | ⟨g1, _, _, h, _, r1, _⟩
            · rw [h] at hgg; simp [Value.ownBlock] at hgg
            · rw [h] at hgg
              have := r1.lt
              simp [Value.ownBlock] at hgg
              omega)
          clear hA hp tp h0 h1 h2 h3 hl4 hv hvu hg hvp hjk hkL
          go_wp2_with fail
          refine DM.out.mono ?_
          rintro e w5 ⟨q, r, rfl, -, orr, -, -, -, b5⟩
          have fin : GgRel w G L (v + u % v) (.slice Av (j + 2) cb) r w5 := by
            refine ⟨v, u % v, rfl, OV4.out.below b5 (Nat.le_refl _), orr.mono HB4.out.size, hle2.out, hg2, hvL, fun g e1 e2 => ?_, Below.step HB4.out HB4.out.size b5⟩
            have := hlt3.out g e1
            rcases orr with ⟨rfl, _⟩ | ⟨g1, _, _, rfl, hg1, _, _⟩
            · simp [Value.ownBlock] at e2
            · simp [Value.ownBlock] at e2
              omega
          clear DM orr b5 hlt3 OV4 OU4 CU4 CV4 HB4
          go_wp2_with fail
          go_roundg (v + u % v)
          case rel => exact fin
          case measure => exact hlt.out
        · have tp : decide (p1 ≠ 0) = true := decide_eq_true hp
          rw [tp]
          obtain ⟨A, B, hgc, hBA, hAU, hms, he, ho⟩ := hA hp
          obtain ⟨k0, k1, k2, k3, k4⟩ := leap_cells hl4
          have AP := hide (apply_any (odd := odd) CU4.out.nw CV4.out.nw (by omega) h0 h1 h2 h3 hAU (by omega) he ho)
          have hg2 : Hid (Nat.gcd A B = G) := hide (by rw [hgc]; exact hg.out)
          have hAL : Hid (A < Q ^ L) := hide (Nat.lt_of_le_of_lt hAU hL2.out)
          have HM := hide hms
          have HBA := hide hBA
          clear hA hp tp h0 h1 h2 h3 hl4 hv hvu hg hgc hBA hAU hms he ho OU4 OV4 CU4 CV4 hjk hkL
          go_wp2_with fail
          refine AP.out.mono ?_
          rintro e w5 ⟨r, q, rfl, o1, o2, hn2, b5⟩
          have fin : GgRel w G L (A + B) r q w5 :=
            ⟨A, B, rfl, o1.mono HB4.out.size, o2.mono HB4.out.size, HBA.out, hg2, hAL, hn2, Below.step HB4.out HB4.out.size b5⟩
          clear AP o1 o2 hn2 b5 HB4
          go_wp2_with fail
          go_roundg (A + B)
          case rel => exact fin
          case measure => exact HM.out

theorem gcd_lt {x y L : Nat} {B : Nat} (hx : x < B ^ L) (hy : y < B ^ L) : Nat.gcd x y < B ^ L := by
  rcases Nat.eq_zero_or_pos x with h | h
  · subst h; rw [Nat.gcd_zero_left]; exact hy
  · exact Nat.lt_of_le_of_lt (Nat.gcd_le_left _ h) hx
theorem gcd_c {w : World} {a b : Value} {x y L : Nat} (hu : Nw w a x L) (hv : Nw w b y L) (hL : L ≤ 17592186044000) :
    Calls Tryz.prog 74 #[a, b] w fun e w' => ∃ r, e = .returned r ∧ Own .u64 65 w' w.heap.size r (cn Q (Nat.gcd x y)) ∧ Cw w' r (Nat.gcd x y) L ∧ Below w.heap.size w w' :=
  (gcd_n hu hv hL).mono fun e w' ⟨r, he, ho, hb⟩ => ⟨r, he, ho, Cw.of ho (gcd_lt hu.lt hv.lt), hb⟩
/-- How long the plain list of a number is: 0 just for 0. -/
theorem Cw.form {w : World} {v : Value} {x L : Nat} (h : Cw w v x L) : ∃ A n c, v = .slice A n c ∧ (x = 0 → n = 0) ∧ (x ≠ 0 → ((n : Int) == 0) = false) := by
  obtain ⟨A, c, e, _⟩ := h
  refine ⟨A, _, c, e, fun h0 => by rw [h0, cn_zero]; rfl, fun h0 => ?_⟩
  have hp : 0 < (cn Q x).length := List.length_pos_iff.2 (fun h => h0 ((cn_eq_nil Q_two).1 h))
  exact beq_eq_false_iff_ne.2 (by omega)
theorem Ic.form {w : World} {v : Value} {x L : Nat} (h : Ic w v x L) : ∃ A n c, v = .slice A n c ∧ (x = 0 → n = 0) ∧ (x ≠ 0 → ((n : Int) == 0) = false) := by
  obtain ⟨A, c, e, _⟩ := h
  refine ⟨A, _, c, e, fun h0 => by rw [h0, cn_zero]; rfl, fun h0 => ?_⟩
  have hp : 0 < (cn 10000 x).length := List.length_pos_iff.2 (fun h => h0 ((cn_eq_nil B_two).1 h))
  exact beq_eq_false_iff_ne.2 (by omega)
theorem ndiv_exact {w : World} {u v : Value} {x y L M : Nat} (hu : Nw w u x L) (hv : Nw w v y M) (hL : L ≤ 17592186044000) (hy : 0 < y) (h0 : x % y = 0) :
    Calls Tryz.prog 75 #[u, v] w fun e w' => ∃ q A c, e = .returned (.tuple #[q, .slice A 0 c, .int .i64 0]) ∧ Below w.heap.size w w' := by
  refine (ndivmod hu hv hL hy).mono fun e w' ⟨q, r, he, _, _, _, _, cr, hb⟩ => ?_
  obtain ⟨A, n, c, rfl, hz, _⟩ := cr.form
  obtain rfl := hz h0
  exact ⟨q, A, c, he, hb⟩
theorem apart_turn {a b : Value} (h : a.ownBlock = none ∨ a.ownBlock ≠ b.ownBlock) : b.ownBlock = none ∨ b.ownBlock ≠ a.ownBlock := by
  rcases h with h | h
  · rw [h]
    cases hb : b.ownBlock
    · exact .inl rfl
    · exact .inr (by simp)
  · exact .inr (fun e => h e.symm)
theorem apart_of {a b : Value} (h : ∀ g, a.ownBlock = some g → b.ownBlock ≠ some g) : b.ownBlock = none ∨ b.ownBlock ≠ a.ownBlock := by
  cases hb : b.ownBlock with
  | none => exact .inl rfl
  | some g => exact .inr (fun e => h g e.symm hb)
end Go.Proofs.YtajjpepjbflojaaGreatDoor
