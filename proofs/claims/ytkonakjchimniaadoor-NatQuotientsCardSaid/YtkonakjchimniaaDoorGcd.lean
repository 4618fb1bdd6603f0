/-
  nat.Gcd: exact, for all lists of words.
-/
import Derived.Test.YtkonakjchimniaaDoorFind
import Derived.Test.YtkonakjchimniaaDoorDivFull
import Derived.Test.YtkonakjchimniaaDoorGcd1
import Derived.Test.YtkonakjchimniaaDoorDigits
import Derived.Deep.LoopGhost
namespace Go.Proofs.YtkonakjchimniaaDoor
open Go.RowKit Go.Proofs.YtkonakjchimniaaDoor.Num
set_option linter.unusedVariables false
set_option maxRecDepth 100000

/-- What the loop holds: two numbers of the call's own, in order, with the divisor that is sought; the number of the rounds to come is less than their sum. -/
def GgRel (w : World) (G L gk : Nat) (av bv : Value) (wr : World) : Prop :=
  ∃ u v : Nat, gk = u + v ∧ Own .u64 71 wr w.heap.size av (cn Q u) ∧ Own .u64 71 wr w.heap.size bv (cn Q v) ∧ v ≤ u ∧ Hid (Nat.gcd u v = G) ∧ Hid (u < Q ^ L) ∧
    (∀ g, av.ownBlock = some g → bv.ownBlock ≠ some g) ∧ Below w.heap.size w wr

theorem cn_long {v : Nat} (h : Q ≤ v) : ∃ j, (cn Q v).length = j + 2 := by
  rw [cn_pos Q_two (by have := Q_pos; omega), cn_pos (n := v / Q) Q_two (by have := Nat.div_pos h Q_pos; omega)]
  exact ⟨(cn Q (v / Q / Q)).length, by simp⟩
theorem cn_top {u k : Nat} (h : (cn Q u).length = k + 2) : (cn Q u).getD (k + 1) 0 ≠ 0 := top_of_tz (tz_cn Q_two u) h
theorem cn_len {v u : Nat} (h : v ≤ u) : (cn Q v).length ≤ (cn Q u).length := cn_length_le Q_two (Nat.lt_of_le_of_lt h (lt_of_cn_length Q_two (Nat.le_refl _)))

/-- What stands in a leap's block. -/
theorem leap_cells {w : World} {g p0 p1 q0 q1 : Nat} {odd : Bool} (h : w.heap[g]? = some (lblk odd p0 p1 q0 q1)) :
    w.cell? ⟨g, 0, none⟩ = some (.bool odd) ∧ w.cell? ⟨g, 1, none⟩ = some (.int .u64 (p0 : Int)) ∧ w.cell? ⟨g, 2, none⟩ = some (.int .u64 (p1 : Int)) ∧ w.cell? ⟨g, 3, none⟩ = some (.int .u64 (q0 : Int)) ∧ w.cell? ⟨g, 4, none⟩ = some (.int .u64 (q1 : Int)) :=
  ⟨cell_of_row w g 0 _ _ _ h, cell_of_row w g 1 _ _ _ h, cell_of_row w g 2 _ _ _ h, cell_of_row w g 3 _ _ _ h, cell_of_row w g 4 _ _ _ h⟩

set_option maxHeartbeats 8000000 in
theorem gcd_n {w : World} {a b : Value} {x y L : Nat} (hu : Nw w a x L) (hv : Nw w b y L) (hL : L ≤ 17592186044000) :
    Calls Tryd.prog 14 #[a, b] w (OwnRet .u64 71 w (cn Q (Nat.gcd x y))) := by
  have hxL := hide hu.lt
  have hyL := hide hv.lt
  have t1 := hide (ntrim_n hu hL)
  have HV := hide hv
  obtain ⟨G, hG⟩ : ∃ G, Hid (Nat.gcd x y = G) := ⟨_, hide rfl⟩
  rw [hG.out]
  have hst : ∃ s : Int, Hid (cmpN x y = s) ∧ ((s < 0 ∧ x < y) ∨ (0 ≤ s ∧ y ≤ x)) := by
    refine ⟨_, hide rfl, ?_⟩
    rcases Nat.lt_trichotomy x y with h | h | h
    · rw [cmpN_lt h]; left; omega
    · subst h; rw [cmpN_eq]; right; omega
    · rw [cmpN_gt h]; right; omega
  obtain ⟨s, hse, hcase⟩ := hst
  clear hu hv
  rcases hcase with ⟨hs, hxy⟩ | ⟨hs, hxy⟩
  all_goals
    go_enter Tryd.func14, Tryd.ntmps14
    go_wp2_with fail
    refine t1.out.mono ?_
    rintro e w1 ⟨va, rfl, oa, ca, b1⟩
    have t2 := hide (ntrim_n (HV.out.step b1) hL)
    have OA := hide oa
    have CA := hide ca
    have B1 := hide b1
    clear oa ca b1
    go_wp2_with fail
    refine t2.out.mono ?_
    rintro e w2 ⟨vb, rfl, ob, cb, b2⟩
    have hne : ∀ g, va.ownBlock = some g → vb.ownBlock ≠ some g := by
      intro g h1 h2
      have o1 := OA.out
      rcases o1 with ⟨rfl, _⟩ | ⟨g1, _, _, rfl, _, r1, _⟩
      · simp [Value.ownBlock] at h1
      · rcases ob with ⟨rfl, _⟩ | ⟨g2, _, _, rfl, hg2, _, _⟩
        · simp [Value.ownBlock] at h2
        · have := r1.lt
          simp [Value.ownBlock] at h1 h2
          omega
    have oa2 : Own .u64 71 w2 w.heap.size va (cn Q x) := OA.out.below b2 (Nat.le_refl _)
    have ob2 : Own .u64 71 w2 w.heap.size vb (cn Q y) := ob.mono B1.out.size
    have B2 := hide (B1.out.trans (b2.mono B1.out.size))
    have CM := hide (cmp_n (CA.out.step b2).nw cb.nw (by omega) (by omega))
    have stA : x < y → GgRel w G L (x + y) vb va w2 := fun h => ⟨y, x, Nat.add_comm _ _, ob2, oa2, Nat.le_of_lt h, hide (by rw [Nat.gcd_comm]; exact hG.out), hyL, fun g h1 h2 => hne g h2 h1, B2.out⟩
    have stB : y ≤ x → GgRel w G L (x + y) va vb w2 := fun h => ⟨x, y, rfl, oa2, ob2, h, hG, hxL, hne, B2.out⟩
    have StA := hide stA
    have StB := hide stB
    clear stA stB ob cb b2 oa2 ob2 hne OA CA B1 B2 t1 t2 HV hG
    go_wp2_with fail
    refine CM.out.mono ?_
    rw [hse.out]
    rintro e w_ ⟨rfl, rfl⟩
    clear CM
    go_wp2_with fail
    go_loopg [0, 1] (x + y) (fun gk av bv wr => GgRel w G L gk av bv wr)
    case atStart => first | exact StA.out hxy | exact StB.out hxy
    case round =>
      clear StA StB hxy hs hse hxL hyL
      obtain ⟨u, v, rfl, ou, ov, hvu, hg, hL2, hne, hbel⟩ := hrel
      by_cases hv : v < Q
      · by_cases h0 : v = 0
        · subst h0
          obtain ⟨R, cr, hR, -, -, -, -⟩ := ov.form
          rw [cn_zero, List.length_nil] at hR
          subst hR
          have e := hg.out
          rw [Nat.gcd_zero_right] at e
          rw [e] at ou
          clear ov hne hg hvu hL2
          go_wp2_with fail
          go_ret
          exact ⟨_, rfl, ou, hbel⟩
        · obtain ⟨R, cr, hR, hl1, hl2, rv, pv⟩ := ov.form
          have e1 : cn Q v = [v] := by rw [← cn_single hv, tz]; simp [tz, h0]
          rw [e1] at hR rv ov
          simp only [List.length_cons, List.length_nil, Nat.zero_add] at hR rv
          subst hR
          obtain ⟨b, o, rfl, hbb, hc⟩ := rv.at_ (show 0 < 1 by omega)
          simp only [List.getD_cons_zero, Nat.add_zero] at hc
          have hrQ : u % v < Q := Nat.lt_trans (Nat.mod_lt _ (by omega)) hv
          have hgcd : Hid (Nat.gcd v (u % v) = G) := hide (by rw [← hg.out, Nat.gcd_comm u v, Nat.gcd_comm v (u % v), ← Nat.gcd_rec v u])
          have hdw : ∀ W, Below wr.heap.size wr W → Calls Tryd.prog 51 #[u0, .int .u64 (v : Int)] W (fun e w' => e = .returned (.int .u64 ((u % v : Nat) : Int)) ∧ w'.cell? ⟨b, o, none⟩ = some (.int .u64 (v : Int)) ∧ Below w.heap.size w w') := by
            intro W hW
            have ou2 := ou.below hW (Nat.le_refl _)
            have h := divWord_own w.heap.size v u0 _ W ou2 (dg_cn Q_two _) (by omega) hv
            rw [vl_cn Q_two] at h
            refine h.mono fun e w' ⟨us, he, _, du, hvu2, ho2, hgr⟩ => ⟨he, ?_, ?_⟩
            · refine (World.cell?_of_block (hgr.block b (Nat.lt_of_lt_of_le hbb hW.size) ?_)).trans ((hW.cell hbb).trans hc)
              intro h3
              exact hne b h3.symm rfl
            · exact push_below (hbel.trans (hW.mono hbel.size)) ou2 hgr (Nat.le_trans hbel.size hW.size)
          have hGp : Hid (cn Q G = [G]) := hide (by
            have h1 : 0 < G := by rw [← hgcd.out]; exact Nat.gcd_pos_of_pos_left _ (by omega)
            have h2 : G ≤ v := by rw [← hgcd.out]; exact Nat.gcd_le_left _ (by omega)
            rw [← cn_single (show G < Q by omega)]; simp [tz]; omega)
          clear rv pv hl1 hl2 hne hg hvu e1 hL2
          go_wp2_with fail
          go_region_held3 (fun w' => w'.cell? ⟨b, o, none⟩ = some (.int .u64 (v : Int))) (first | exact hc | assumption | exact (World.cell?_alloc_lt _ _ _ (World.block_lt_of_cell? _ _ hc3)).trans hc3)
            (first
              | (go_at_call 51; refine (hdw _ (by first | exact Below.refl _ _ | exact (Below.refl _ _).drew | exact below_drewN (Below.refl _ _) _)).mono ?_; rintro e w3 ⟨rfl, hc3, hb3⟩)
              | (go_at_call 57; refine (gcdWord_any v (u % v) _ hv hrQ).mono ?_; rintro e w4 ⟨rfl, k4, rfl⟩))
          go_wp2_with fail
          go_ret
          rw [hgcd.out]
          refine ⟨_, rfl, ?_, (below_drewN hb3 k4).alloc hb3.size _⟩
          rw [hGp.out]
          exact Own.of_row (Row.new _ .u64 71 #[.int .u64 (G : Int)] [G] (Nat.le_refl _) (fun j hj => by
            match j, hj with
            | 0, _ => rfl)) hb3.size rfl (by simp [maxLen])
      · obtain ⟨j, hj⟩ := cn_long (Nat.le_of_not_lt hv)
        obtain ⟨k, hk⟩ := cn_long (Nat.le_trans (Nat.le_of_not_lt hv) hvu)
        have cu := Cw.of ou hL2.out
        have cv := Cw.of ov (Nat.lt_of_le_of_lt hvu hL2.out)
        have hjk : j ≤ k := by have := cn_len hvu; omega
        have hkL : k + 2 ≤ L := by rw [← hk]; exact cn_length_le Q_two hL2.out
        obtain ⟨Au, ca, hua, -, -, ru, -⟩ := ou.form
        obtain ⟨Av, cb, hvb, -, -, rv, -⟩ := ov.form
        have FL := hide (find_any Au Av k ca (j + 2) cb (cn Q u) (cn Q v) wr (by rw [← hk]; exact ru) (by rw [← hj]; exact rv) (dg_cn Q_two u) (dg_cn Q_two v) (by omega) (by omega) (cn_top hk) (by rw [vl_cn Q_two, vl_cn Q_two]; exact hvu))
        rw [vl_cn Q_two, vl_cn Q_two] at FL
        rw [hk] at hua
        rw [hj] at hvb
        subst hua hvb
        have CU := hide cu
        have CV := hide cv
        have OU := hide ou
        have OV := hide ov
        have HB := hide hbel
        have HN := hide hne
        clear cu cv ou ov hbel hne ru rv hk hj
        go_wp2_with fail
        refine FL.out.mono ?_
        rintro e w3 ⟨odd, p0, p1, q0, q1, rfl, h0, h1, h2, h3, hA, b3⟩
        have W4 : Below w3.heap.size w3 (w3.alloc (lblk odd p0 p1 q0 q1)) := (Below.refl _ _).alloc (Nat.le_refl _) _
        have hl := heap_alloc_new w3 (lblk odd p0 p1 q0 q1)
        have B4 := Below.step b3 b3.size W4
        have hsz : wr.heap.size ≤ w3.heap.size := b3.size
        clear FL W4 b3
        go_wp2_with fail
        refine (far_any odd p0 p1 q0 q1 _).mono ?_
        rintro e w4 ⟨rfl, b4⟩
        have B5 := Below.step B4 B4.size b4
        have hl4 := (b4.block w3.heap.size (by simp)).trans hl
        have CU4 := hide (CU.out.step B5)
        have CV4 := hide (CV.out.step B5)
        have OU4 := hide (OU.out.below B5 (Nat.le_refl _))
        have OV4 := hide (OV.out.below B5 (Nat.le_refl _))
        have HB4 := hide (Below.step HB.out HB.out.size B5)
        clear B4 B5 b4 hl CU CV OU OV HB hsz
        by_cases hp : p1 = 0
        · have tp : decide (p1 ≠ 0) = false := decide_eq_false (by simpa using hp)
          rw [tp]
          have hvp : 0 < v := by have := Q_pos; omega
          have DM := hide (ndivmod CU4.out.nw CV4.out.nw hL hvp)
          have hlt : Hid (v + u % v < u + v) := hide (by have := Nat.mod_lt u hvp; omega)
          have hg2 : Hid (Nat.gcd v (u % v) = G) := hide (by rw [← hg.out, Nat.gcd_comm u v, Nat.gcd_comm v (u % v), ← Nat.gcd_rec v u])
          have hle2 : Hid (u % v ≤ v) := hide (Nat.le_of_lt (Nat.mod_lt _ hvp))
          have hvL : Hid (v < Q ^ L) := hide (Nat.lt_of_le_of_lt hvu hL2.out)
          have hlt3 : Hid (∀ g, (Value.slice Av (j + 2) cb).ownBlock = some g → g < w4.heap.size) := hide (fun g hgg => by
            rcases OV4.out with ⟨h, _⟩ | ⟨g1, _, _, h, _, r1, _⟩
            · rw [h] at hgg; simp [Value.ownBlock] at hgg
            · rw [h] at hgg
              have := r1.lt
              simp [Value.ownBlock] at hgg
              omega)
          clear hA hp tp h0 h1 h2 h3 hl4 hv hvu hg hvp hjk hkL
          go_wp2_with fail
          refine DM.out.mono ?_
          rintro e w5 ⟨q, r, rfl, -, orr, -, -, -, b5⟩
          have fin : GgRel w G L (v + u % v) (.slice Av (j + 2) cb) r w5 := by
            refine ⟨v, u % v, rfl, OV4.out.below b5 (Nat.le_refl _), orr.mono HB4.out.size, hle2.out, hg2, hvL, fun g e1 e2 => ?_, Below.step HB4.out HB4.out.size b5⟩
            have := hlt3.out g e1
            rcases orr with ⟨rfl, _⟩ | ⟨g1, _, _, rfl, hg1, _, _⟩
            · simp [Value.ownBlock] at e2
            · simp [Value.ownBlock] at e2
              omega
          clear DM orr b5 hlt3 OV4 OU4 CU4 CV4 HB4
          go_wp2_with fail
          go_roundg (v + u % v)
          case rel => exact fin
          case measure => exact hlt.out
        · have tp : decide (p1 ≠ 0) = true := decide_eq_true hp
          rw [tp]
          obtain ⟨A, B, hgc, hBA, hAU, hms, he, ho⟩ := hA hp
          obtain ⟨k0, k1, k2, k3, k4⟩ := leap_cells hl4
          have AP := hide (apply_any (odd := odd) CU4.out.nw CV4.out.nw (by omega) h0 h1 h2 h3 hAU (by omega) he ho)
          have hg2 : Hid (Nat.gcd A B = G) := hide (by rw [hgc]; exact hg.out)
          have hAL : Hid (A < Q ^ L) := hide (Nat.lt_of_le_of_lt hAU hL2.out)
          have HM := hide hms
          have HBA := hide hBA
          clear hA hp tp h0 h1 h2 h3 hl4 hv hvu hg hgc hBA hAU hms he ho OU4 OV4 CU4 CV4 hjk hkL
          go_wp2_with fail
          refine AP.out.mono ?_
          rintro e w5 ⟨r, q, rfl, o1, o2, hn2, b5⟩
          have fin : GgRel w G L (A + B) r q w5 :=
            ⟨A, B, rfl, o1.mono HB4.out.size, o2.mono HB4.out.size, HBA.out, hg2, hAL, hn2, Below.step HB4.out HB4.out.size b5⟩
          clear AP o1 o2 hn2 b5 HB4
          go_wp2_with fail
          go_roundg (A + B)
          case rel => exact fin
          case measure => exact HM.out

theorem gcd_lt {x y L : Nat} {B : Nat} (hx : x < B ^ L) (hy : y < B ^ L) : Nat.gcd x y < B ^ L := by
  rcases Nat.eq_zero_or_pos x with h | h
  · subst h; rw [Nat.gcd_zero_left]; exact hy
  · exact Nat.lt_of_le_of_lt (Nat.gcd_le_left _ h) hx
theorem gcd_c {w : World} {a b : Value} {x y L : Nat} (hu : Nw w a x L) (hv : Nw w b y L) (hL : L ≤ 17592186044000) :
    Calls Tryd.prog 14 #[a, b] w fun e w' => ∃ r, e = .returned r ∧ Own .u64 71 w' w.heap.size r (cn Q (Nat.gcd x y)) ∧ Cw w' r (Nat.gcd x y) L ∧ Below w.heap.size w w' :=
  (gcd_n hu hv hL).mono fun e w' ⟨r, he, ho, hb⟩ => ⟨r, he, ho, Cw.of ho (gcd_lt hu.lt hv.lt), hb⟩
/-- How long the plain list of a number is: 0 just for 0. -/
theorem Cw.form {w : World} {v : Value} {x L : Nat} (h : Cw w v x L) : ∃ A n c, v = .slice A n c ∧ (x = 0 → n = 0) ∧ (x ≠ 0 → ((n : Int) == 0) = false) := by
  obtain ⟨A, c, e, _⟩ := h
  refine ⟨A, _, c, e, fun h0 => by rw [h0, cn_zero]; rfl, fun h0 => ?_⟩
  have hp : 0 < (cn Q x).length := List.length_pos_iff.2 (fun h => h0 ((cn_eq_nil Q_two).1 h))
  exact beq_eq_false_iff_ne.2 (by omega)
theorem Ic.form {w : World} {v : Value} {x L : Nat} (h : Ic w v x L) : ∃ A n c, v = .slice A n c ∧ (x = 0 → n = 0) ∧ (x ≠ 0 → ((n : Int) == 0) = false) := by
  obtain ⟨A, c, e, _⟩ := h
  refine ⟨A, _, c, e, fun h0 => by rw [h0, cn_zero]; rfl, fun h0 => ?_⟩
  have hp : 0 < (cn 10000 x).length := List.length_pos_iff.2 (fun h => h0 ((cn_eq_nil B_two).1 h))
  exact beq_eq_false_iff_ne.2 (by omega)
theorem ndiv_exact {w : World} {u v : Value} {x y L M : Nat} (hu : Nw w u x L) (hv : Nw w v y M) (hL : L ≤ 17592186044000) (hy : 0 < y) (h0 : x % y = 0) :
    Calls Tryd.prog 13 #[u, v] w fun e w' => ∃ q A c, e = .returned (.tuple #[q, .slice A 0 c, .int .i64 0]) ∧ Below w.heap.size w w' := by
  refine (ndivmod hu hv hL hy).mono fun e w' ⟨q, r, he, _, _, _, _, cr, hb⟩ => ?_
  obtain ⟨A, n, c, rfl, hz, _⟩ := cr.form
  obtain rfl := hz h0
  exact ⟨q, A, c, he, hb⟩
theorem apart_turn {a b : Value} (h : a.ownBlock = none ∨ a.ownBlock ≠ b.ownBlock) : b.ownBlock = none ∨ b.ownBlock ≠ a.ownBlock := by
  rcases h with h | h
  · rw [h]
    cases hb : b.ownBlock
    · exact .inl rfl
    · exact .inr (by simp)
  · exact .inr (fun e => h e.symm)
theorem apart_of {a b : Value} (h : ∀ g, a.ownBlock = some g → b.ownBlock ≠ some g) : b.ownBlock = none ∨ b.ownBlock ≠ a.ownBlock := by
  cases hb : b.ownBlock with
  | none => exact .inl rfl
  | some g => exact .inr (fun e => h g e.symm hb)
end Go.Proofs.YtkonakjchimniaaDoor
