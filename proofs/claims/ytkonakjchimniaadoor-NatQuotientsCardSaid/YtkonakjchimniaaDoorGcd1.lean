/-
  nat.Gcd where the lesser number has at most one word.
-/
import Derived.Test.YtkonakjchimniaaDoorDivMod
import Derived.Deep.RegionHeld3
namespace Go.Proofs.YtkonakjchimniaaDoor
open Go.RowKit Go.Proofs.YtkonakjchimniaaDoor.Num
set_option linter.unusedVariables false
set_option maxRecDepth 100000

theorem gcdWord_any (a b : Nat) (w : World) (ha : a < Q) (hb : b < Q) :
    Calls Tryd.prog 57 #[.int .u64 (a : Int), .int .u64 (b : Int)] w (QuietRet w (.int .u64 ((Nat.gcd a b : Nat) : Int))) := by
  obtain ⟨G, hG⟩ : ∃ G, Hid (Nat.gcd a b = G) := ⟨_, hide rfl⟩
  rw [hG.out]
  go_enter Tryd.func57, Tryd.ntmps57
  go_wp2_with fail
  go_loopw [0, 1] (fun av bv wr => ∃ x y q : Nat, av = .int .u64 (x : Int) ∧ bv = .int .u64 (y : Int) ∧ x < Q ∧ y < Q ∧ Hid (Nat.gcd x y = G) ∧ wr = w.drewN q) (fun _ bv _ => (intOf bv).toNat)
  case atStart => exact ⟨a, b, 0, rfl, rfl, ha, hb, hG, rfl⟩
  case round =>
    obtain ⟨x, y, q, rfl, rfl, hx, hy, hg, rfl⟩ := hrel
    clear hG ha hb
    by_cases h0 : y = 0
    · subst h0
      have e := hg.out
      rw [Nat.gcd_zero_right] at e
      have b0 : (((0 : Int) != 0)) = false := rfl
      clear hg hx hy
      go_wp2_with fail
      go_ret
      exact ⟨by rw [← e]; rfl, q, rfl⟩
    · have b0 : ((y : Int) != 0) = true := by rw [bne_iff_ne]; omega
      have b1 : ((y : Int) == 0) = false := beq_eq_false_iff_ne.2 (by omega)
      have c1 : (1 : Int) ≤ (y : Int) := by omega
      have e2 : (x : Int) % (y : Int) = ((x % y : Nat) : Int) := (Int.natCast_emod x y).symm
      have hlt : x % y < y := Nat.mod_lt _ (by omega)
      have hg2 : Hid (Nat.gcd y (x % y) = G) := hide (by rw [← hg.out, Nat.gcd_comm x y, Nat.gcd_comm y (x % y), ← Nat.gcd_rec y x])
      have hr : ∃ r, Hid (x % y = r) := ⟨_, hide rfl⟩
      obtain ⟨r, hr⟩ := hr
      rw [hr.out] at e2 hlt hg2
      have hrQ : r < Q := by omega
      have b3 : (r : Int) ≤ 18446744073709551615 := by unfold Q at hrQ; omega
      have hxI : (x : Int) ≤ 18446744073709551615 := by unfold Q at hx; omega
      have fin : ∀ nq : Nat, ∃ x' y' q' : Nat, Value.int .u64 (y : Int) = .int .u64 (x' : Int) ∧ Value.int .u64 (r : Int) = .int .u64 (y' : Int) ∧ x' < Q ∧ y' < Q ∧ Hid (Nat.gcd x' y' = G) ∧ (w.drewN q).drewN nq = w.drewN q' :=
        fun nq => ⟨y, r, q + nq, rfl, rfl, hy, hrQ, hg2, World.drewN_drewN _ _ _⟩
      have Fin := hide fin
      have E2 := hide e2
      have Hlt := hide hlt
      clear hg hg2 hr hrQ fin hx hy
      go_wp2_with fail
      go_quiet (fail)
      go_wp2_with fail
      go_roundw
      case rel => first | exact Fin.out nq | (rw [E2.out]; exact Fin.out nq)
      case measure =>
        have h := Hlt.out
        have h2 := E2.out
        simp [intOf]
        omega

/-- What the loop holds: two numbers of the call's own, in order, with the divisor that is sought. -/
def GRel (w : World) (G : Nat) (av bv : Value) (wr : World) : Prop :=
  ∃ u v : Nat, Own .u64 71 wr w.heap.size av (cn Q u) ∧ Own .u64 71 wr w.heap.size bv (cn Q v) ∧ v < Q ∧ v ≤ u ∧ Hid (Nat.gcd u v = G) ∧ (∀ g, av.ownBlock = some g → bv.ownBlock ≠ some g) ∧ Below w.heap.size w wr

set_option maxHeartbeats 2000000 in
/-- The last step: a list and one word. -/
theorem gcd_short (A D : Option Addr) (n c m d : Nat) (xs ys : List Nat) (w : World) (hx : Rd .u64 w w.heap.size A n xs) (hy : Rd .u64 w w.heap.size D m ys)
    (dx : Dg Q xs) (dy : Dg Q ys) (hnc : n ≤ c) (hc : c ≤ maxLen) (hmd : m ≤ d) (hd : d ≤ maxLen) (hn : n ≤ 17592186044000) (hm : m ≤ 17592186044000)
    (hs : min (vl Q xs) (vl Q ys) < Q) :
    Calls Tryd.prog 14 #[.slice A n c, .slice D m d] w (OwnRet .u64 71 w (cn Q (Nat.gcd (vl Q xs) (vl Q ys)))) := by
  have t1 := trim_any A n c xs w hx dx hnc hc hn
  have t2 : ∀ w1, Below w.heap.size w w1 → Calls Tryd.prog 21 #[.slice D m d] w1 (OwnRet .u64 71 w1 (cn Q (vl Q ys))) :=
    fun w1 hb => trim_any D m d ys w1 ((hy.below hb (Nat.le_refl _)).more hb.size) dy hmd hd hm
  generalize vl Q xs = x at *
  generalize vl Q ys = y at *
  have hcmp : ∀ (W : World) (P R : Option Addr) (cp cr : Nat), Rd .u64 W W.heap.size P (cn Q x).length (cn Q x) → Rd .u64 W W.heap.size R (cn Q y).length (cn Q y) → (cn Q x).length ≤ maxLen → (cn Q y).length ≤ maxLen →
      Calls Tryd.prog 53 #[.slice P (cn Q x).length cp, .slice R (cn Q y).length cr] W fun e w' => e = .returned (.int .i64 (cmpN x y)) ∧ W = w' := by
    intro W P R cp cr h1 h2 h3 h4
    have h := cmp_any W.heap.size P R _ cp _ cr _ _ W h1 h2 (dg_cn Q_two x) (dg_cn Q_two y) h3 h4
    rwa [vl_cn Q_two, vl_cn Q_two] at h
  obtain ⟨G, hG⟩ : ∃ G, Hid (Nat.gcd x y = G) := ⟨_, hide rfl⟩
  rw [hG.out]
  have hst : ∃ s : Int, cmpN x y = s ∧ ((s < 0 ∧ x < y) ∨ (0 ≤ s ∧ y ≤ x)) := by
    refine ⟨_, rfl, ?_⟩
    rcases Nat.lt_trichotomy x y with h | h | h
    · rw [cmpN_lt h]; left; omega
    · subst h; rw [cmpN_eq]; right; omega
    · rw [cmpN_gt h]; right; omega
  obtain ⟨s, hse, hcase⟩ := hst
  rw [hse] at hcmp
  have start : ∀ (va vb : Value) (w2 : World), Own .u64 71 w2 w.heap.size va (cn Q x) → Own .u64 71 w2 w.heap.size vb (cn Q y) → (∀ g, va.ownBlock = some g → vb.ownBlock ≠ some g) → Below w.heap.size w w2 →
      (x < y → GRel w G vb va w2) ∧ (y ≤ x → GRel w G va vb w2) := by
    intro va vb w2 oa ob hne hb
    refine ⟨fun h => ⟨y, x, ob, oa, by omega, by omega, hide (by rw [Nat.gcd_comm]; exact hG.out), fun g h1 h2 => hne g h2 h1, hb⟩, fun h => ⟨x, y, oa, ob, by omega, h, hG, hne, hb⟩⟩
  have two : ∀ (va vb : Value) (w1 w2 : World), Own .u64 71 w1 w.heap.size va (cn Q x) → Below w.heap.size w w1 → Own .u64 71 w2 w1.heap.size vb (cn Q y) → Below w1.heap.size w1 w2 →
      ∃ PA ca PB cb, va = .slice PA (cn Q x).length ca ∧ vb = .slice PB (cn Q y).length cb ∧ Rd .u64 w2 w2.heap.size PA (cn Q x).length (cn Q x) ∧ Rd .u64 w2 w2.heap.size PB (cn Q y).length (cn Q y) ∧ (cn Q x).length ≤ maxLen ∧ (cn Q y).length ≤ maxLen ∧
        (x < y → GRel w G vb va w2) ∧ (y ≤ x → GRel w G va vb w2) := by
    intro va vb w1 w2 oa hb1 ob hb2
    have oa2 := oa.below hb2 (Nat.le_refl _)
    obtain ⟨PA, ca, ea, h1, h2, ra, pa⟩ := oa2.form
    obtain ⟨PA', ca', ea', _, _, _, pa'⟩ := oa.form
    obtain ⟨PB, cb, eb, h3, h4, rb, pb⟩ := ob.form
    obtain ⟨k1, k2⟩ := start va vb w2 oa2 (ob.mono hb1.size) (fun g hg hg' => by
      rw [ea'] at hg
      rw [eb] at hg'
      cases PA' with
      | none => simp [Value.ownBlock] at hg
      | some a =>
        cases PB with
        | none => simp [Value.ownBlock] at hg'
        | some b =>
          simp [Value.ownBlock] at hg hg'
          have := (pa' a rfl).2
          have := (pb b rfl).1
          omega) (hb1.trans (hb2.mono hb1.size))
    exact ⟨PA, ca, PB, cb, ea, eb, ra, rb, by omega, by omega, k1, k2⟩
  clear hs start hG dx dy hx hy hnc hc hmd hd hn hm hse
  generalize (cn Q x).length = lx at *
  generalize (cn Q y).length = ly at *
  rcases hcase with ⟨hs, hxy⟩ | ⟨hs, hxy⟩
  all_goals
    go_enter Tryd.func14, Tryd.ntmps14
    go_wp2_with (first
      | (go_at_call 21; (with_reducible refine t1.mono ?_); rintro e w1 ⟨va, rfl, oa, hb1⟩)
      | (go_at_call 21; (with_reducible refine (t2 _ hb1).mono ?_); rintro e w2 ⟨vb, rfl, ob, hb2⟩; obtain ⟨PA, ca, PB, cb, rfl, rfl, ra, rb, la, lb, st1, st2⟩ := two va vb _ _ oa hb1 ob hb2)
      | (go_at_call 53; refine (hcmp _ _ _ _ _ ra rb la lb).mono ?_; rintro e w' ⟨rfl, rfl⟩))
    go_loopw [0, 1] (fun av bv wr => GRel w G av bv wr) (fun _ _ _ => 0)
    case atStart => first | exact st1 hxy | exact st2 hxy
    case round =>
      obtain ⟨u, v, ou, ov, hv, hvu, hg, hne, hbel⟩ := hrel
      clear t1 t2 hcmp two st1 st2 ra rb la lb oa ob hb1 hb2 hs
      obtain ⟨R, cr, hR, hl1, hl2, rv, pv⟩ := ov.form
      by_cases h0 : v = 0
      · subst h0
        rw [cn_zero, List.length_nil] at hR
        subst hR
        have e := hg.out
        rw [Nat.gcd_zero_right] at e
        rw [e] at ou
        clear rv pv hl1 hl2 ov hne hg hv hvu
        go_wp2_with fail
        go_ret
        exact ⟨_, rfl, ou, hbel⟩
      · have e1 : cn Q v = [v] := by rw [← cn_single hv, tz]; simp [tz, h0]
        rw [e1] at hR rv ov
        simp only [List.length_cons, List.length_nil, Nat.zero_add] at hR rv
        subst hR
        obtain ⟨b, o, rfl, hbb, hc⟩ := rv.at_ (show 0 < 1 by omega)
        simp only [List.getD_cons_zero, Nat.add_zero] at hc
        have hrQ : u % v < Q := Nat.lt_trans (Nat.mod_lt _ (by omega)) hv
        have hgcd : Hid (Nat.gcd v (u % v) = G) := hide (by rw [← hg.out, Nat.gcd_comm u v, Nat.gcd_comm v (u % v), ← Nat.gcd_rec v u])
        have hdw : ∀ W, Below wr.heap.size wr W → Calls Tryd.prog 51 #[u0, .int .u64 (v : Int)] W (fun e w' => e = .returned (.int .u64 ((u % v : Nat) : Int)) ∧ w'.cell? ⟨b, o, none⟩ = some (.int .u64 (v : Int)) ∧ Below w.heap.size w w') := by
          intro W hW
          have ou2 := ou.below hW (Nat.le_refl _)
          have h := divWord_own w.heap.size v u0 _ W ou2 (dg_cn Q_two _) (by omega) hv
          rw [vl_cn Q_two] at h
          refine h.mono fun e w' ⟨us, he, _, du, hvu2, ho2, hgr⟩ => ⟨he, ?_, ?_⟩
          · refine (World.cell?_of_block (hgr.block b (Nat.lt_of_lt_of_le hbb hW.size) ?_)).trans ((hW.cell hbb).trans hc)
            intro h3
            exact hne b h3.symm rfl
          · exact push_below (hbel.trans (hW.mono hbel.size)) ou2 hgr (Nat.le_trans hbel.size hW.size)
        have hGp : Hid (cn Q G = [G]) := hide (by
          have h1 : 0 < G := by rw [← hgcd.out]; exact Nat.gcd_pos_of_pos_left _ (by omega)
          have h2 : G ≤ v := by rw [← hgcd.out]; exact Nat.gcd_le_left _ (by omega)
          rw [← cn_single (show G < Q by omega)]; simp [tz]; omega)
        clear rv pv hl1 hl2 hne hg hvu e1
        go_wp2_with fail
        go_region_held3 (fun w' => w'.cell? ⟨b, o, none⟩ = some (.int .u64 (v : Int))) (first | exact hc | assumption | exact (World.cell?_alloc_lt _ _ _ (World.block_lt_of_cell? _ _ hc3)).trans hc3)
          (first
            | (go_at_call 51; refine (hdw _ (by first | exact Below.refl _ _ | exact (Below.refl _ _).drew | exact below_drewN (Below.refl _ _) _)).mono ?_; rintro e w3 ⟨rfl, hc3, hb3⟩)
            | (go_at_call 57; refine (gcdWord_any v (u % v) _ hv hrQ).mono ?_; rintro e w4 ⟨rfl, k4, rfl⟩))
        go_wp2_with fail
        go_ret
        rw [hgcd.out]
        refine ⟨_, rfl, ?_, (below_drewN hb3 k4).alloc hb3.size _⟩
        rw [hGp.out]
        exact Own.of_row (Row.new _ .u64 71 #[.int .u64 (G : Int)] [G] (Nat.le_refl _) (fun j hj => by
          match j, hj with
          | 0, _ => rfl)) hb3.size rfl (by simp [maxLen])
end Go.Proofs.YtkonakjchimniaaDoor
