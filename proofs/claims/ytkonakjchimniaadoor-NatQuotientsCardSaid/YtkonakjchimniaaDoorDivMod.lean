/-
  nat.DivMod by 0, by a longer number, by a single word.
-/
import Derived.Test.YtkonakjchimniaaDoorDivW
namespace Go.Proofs.YtkonakjchimniaaDoor
open Go.RowKit Go.Proofs.YtkonakjchimniaaDoor.Num
set_option linter.unusedVariables false
set_option maxRecDepth 100000

/-- clip of a list of the call's own. -/
theorem clip_own (B : Nat) (v : Value) (us : List Nat) (w : World) (h : Own .u64 71 w B v us) :
    ∃ v', Own .u64 71 w B v' (tz us) ∧ (v'.ownBlock = none ∨ v'.ownBlock = v.ownBlock) ∧ Calls Tryd.prog 50 #[v] w fun e w' => e = .returned v' ∧ w = w' := by
  rcases h with ⟨rfl, rfl⟩ | ⟨g, cap, C, rfl, hB, hr, hC, hm⟩
  · have hc := clip_any w.heap.size none 0 0 [] w Rd.nil (Nat.le_refl _) (by simp [maxLen])
    exact ⟨.slice none 0 0, Own.nil, .inl rfl, hc⟩
  · have hlt := hr.lt
    obtain ⟨cs, _, _, hl, _⟩ := id hr
    have hc := clip_any (g + 1) (some ⟨g, 0, none⟩) us.length cap us w ⟨rfl, fun _ => ⟨g, 0, rfl, by omega, fun j hj => hr.cell hj⟩⟩ (by omega) hm
    refine ⟨clipV (some ⟨g, 0, none⟩) (tz us).length cap, own_clip hr hB hC hm, ?_, hc⟩
    unfold clipV
    split
    · exact .inl rfl
    · exact .inr rfl

/-- What DivMod answers of a and b: ErrZero, or quotient and rest. -/
def DivRet (t : TypeId) (w : World) (a b : Nat) (e : Ending) (w' : World) : Prop :=
  (b = 0 → e = .returned (.tuple #[.slice none 0 0, .slice none 0 0, .int .i64 3])) ∧
  (0 < b → ∃ q r, e = .returned (.tuple #[q, r, .int .i64 0]) ∧ Own .u64 t w' w.heap.size q (cn Q (a / b)) ∧ Own .u64 t w' w.heap.size r (cn Q (a % b)) ∧ ∀ g, q.ownBlock = some g → r.ownBlock ≠ some g) ∧
  Below w.heap.size w w'

/-- The first word of a list of one. -/
theorem one_word {ys : List Nat} (h : ys.length = 1) : ∃ y, ys = [y] := by
  match ys, h with
  | [y], _ => exact ⟨y, rfl⟩

theorem cn_single {r : Nat} (h : r < Q) : tz [r] = cn Q r := by
  have := cn_vl Q_two (xs := [r]) (Dg.cons h Dg.nil)
  rw [← this]; simp [vl]
theorem pos_of_tz {ys : List Nat} (h : tz ys = ys) (h0 : 0 < ys.length) (dy : Dg Q ys) : Q ^ (ys.length - 1) ≤ vl Q ys := by
  have hc := cn_vl Q_two dy
  rw [h] at hc
  rcases Nat.lt_or_ge (vl Q ys) (Q ^ (ys.length - 1)) with hlt | hge
  · have := cn_length_le Q_two hlt
    rw [hc] at this
    omega
  · exact hge

set_option maxHeartbeats 1000000 in
theorem divmod_zero (A D : Option Addr) (n c m d : Nat) (xs ys : List Nat) (w : World) (hx : Rd .u64 w w.heap.size A n xs) (hy : Rd .u64 w w.heap.size D m ys)
    (dx : Dg Q xs) (dy : Dg Q ys) (hnc : n ≤ c) (hc : c ≤ maxLen) (hmd : m ≤ d) (hd : d ≤ maxLen) (h0 : (tz ys).length = 0) :
    Calls Tryd.prog 13 #[.slice A n c, .slice D m d] w (DivRet 71 w (vl Q xs) (vl Q ys)) := by
  obtain ⟨A', c', hpc, hcm, hx', -, cx⟩ := clip_get _ A n c xs w hx hnc hc
  obtain ⟨D', d', hqd, hdm, hy', -, cy⟩ := clip_get _ D m d ys w hy hmd hd
  have hv : vl Q ys = 0 := by rw [← tz_vl, List.eq_nil_of_length_eq_zero h0]; rfl
  rw [hv]
  generalize (tz xs).length = p at *
  rw [h0] at cy
  clear hx hy hx' hy' dx dy hnc hc hmd hd hpc hcm hqd hdm hv h0
  go_enter Tryd.func13, Tryd.ntmps13
  go_wp2_with (first
    | (go_at_call 50; (with_reducible refine cx.mono ?_); rintro e w' ⟨rfl, rfl⟩)
    | (go_at_call 50; (with_reducible refine cy.mono ?_); rintro e w' ⟨rfl, rfl⟩))
  go_ret3
  exact ⟨fun _ => rfl, fun h => absurd h (by omega), Below.refl _ _⟩

set_option maxHeartbeats 1000000 in
theorem divmod_less (A D : Option Addr) (n c m d : Nat) (xs ys : List Nat) (w : World) (hx : Rd .u64 w w.heap.size A n xs) (hy : Rd .u64 w w.heap.size D m ys)
    (dx : Dg Q xs) (dy : Dg Q ys) (hnc : n ≤ c) (hc : c ≤ maxLen) (hmd : m ≤ d) (hd : d ≤ maxLen) (hn : n ≤ 17592186044000) (hlt : (tz xs).length < (tz ys).length) :
    Calls Tryd.prog 13 #[.slice A n c, .slice D m d] w (DivRet 71 w (vl Q xs) (vl Q ys)) := by
  obtain ⟨A', c', hpc, hcm, hx', -, cx⟩ := clip_get _ A n c xs w hx hnc hc
  obtain ⟨D', d', hqd, hdm, hy', -, cy⟩ := clip_get _ D m d ys w hy hmd hd
  have hless : vl Q xs < vl Q ys := by
    have h1 := vl_lt (tz_dg dx)
    have h2 := pos_of_tz (tz_idem ys) (by omega) (tz_dg dy)
    rw [tz_vl] at h1 h2
    exact Nat.lt_of_lt_of_le (Nat.lt_of_lt_of_le h1 (Nat.pow_le_pow_right Q_pos (by omega))) h2
  have htr := trim_any A' (tz xs).length c' (tz xs) w hx' (tz_dg dx) hpc hcm (by have := tz_length_le xs; have := hx.1; omega)
  rw [tz_vl] at htr
  have hfin : ∀ v w', Own .u64 71 w' w.heap.size v (cn Q (vl Q xs)) → Below w.heap.size w w' → DivRet 71 w (vl Q xs) (vl Q ys) (.returned (.tuple #[.slice none 0 0, v, .int .i64 0])) w' := by
    intro v w' ho hb
    refine ⟨fun h => absurd h (by omega), fun _ => ⟨_, _, rfl, ?_, ?_, fun g hg => by cases hg⟩, hb⟩
    · rw [Nat.div_eq_of_lt hless, cn_zero]; exact Own.nil
    · rw [Nat.mod_eq_of_lt hless]; exact ho
  have b0 : (((tz ys).length : Int) == 0) = false := beq_eq_false_iff_ne.2 (by omega)
  have hlt' : ((tz xs).length : Int) < ((tz ys).length : Int) := by omega
  generalize (tz xs).length = p at *
  generalize (tz ys).length = q at *
  clear hx hy hx' hy' dx dy hnc hc hmd hd hpc hcm hqd hdm hless hlt hn
  go_enter Tryd.func13, Tryd.ntmps13
  go_wp2_with (first
    | (go_at_call 50; (with_reducible refine cx.mono ?_); rintro e w' ⟨rfl, rfl⟩)
    | (go_at_call 50; (with_reducible refine cy.mono ?_); rintro e w' ⟨rfl, rfl⟩)
    | (go_at_call 21; refine htr.mono ?_; rintro e w' ⟨v, rfl, ho, hb⟩; have fin := hfin v w' ho hb))
  go_ret3
  exact fin

set_option maxHeartbeats 2000000 in
theorem divmod_word (A D : Option Addr) (n c m d : Nat) (xs ys : List Nat) (w : World) (hx : Rd .u64 w w.heap.size A n xs) (hy : Rd .u64 w w.heap.size D m ys)
    (dx : Dg Q xs) (dy : Dg Q ys) (hnc : n ≤ c) (hc : c ≤ maxLen) (hmd : m ≤ d) (hd : d ≤ maxLen) (hn : n ≤ 17592186044000) (h1 : (tz ys).length = 1) (hle : 1 ≤ (tz xs).length) :
    Calls Tryd.prog 13 #[.slice A n c, .slice D m d] w (DivRet 71 w (vl Q xs) (vl Q ys)) := by
  obtain ⟨A', c', hpc, hcm, hx', -, cx⟩ := clip_get _ A n c xs w hx hnc hc
  obtain ⟨D', d', hqd, hdm, hy', -, cy⟩ := clip_get _ D m d ys w hy hmd hd
  have hpos := pos_of_tz (tz_idem ys) (by omega) (tz_dg dy)
  rw [tz_vl] at hpos
  obtain ⟨y, ey⟩ := one_word h1
  have hy1 : vl Q ys = y := by rw [← tz_vl, ey]; simp [vl]
  have bY : y < Q := tz_dg dy y (by rw [ey]; simp)
  rw [h1] at hpos hy'
  simp only [Nat.sub_self, Nat.pow_zero] at hpos
  have hy0 : 0 < y := by omega
  obtain ⟨bb, bo, rfl, hbb, hcy⟩ := hy'.at_ (show 0 < 1 by omega)
  rw [ey] at hcy
  simp only [List.getD_cons_zero, Nat.add_zero] at hcy
  have htr := trim_any A' (tz xs).length c' (tz xs) w hx' (tz_dg dx) hpc hcm (by have := tz_length_le xs; have := hx.1; omega)
  rw [tz_vl] at htr
  rw [hy1]
  -- the quotient in its place, cut; the rest as a list of one
  have step : ∀ (v : Value) (w1 : World), Own .u64 71 w1 w.heap.size v (cn Q (vl Q xs)) → Below w.heap.size w w1 →
      Calls Tryd.prog 51 #[v, .int .u64 (y : Int)] w1 (fun e w2 => ∃ v', e = .returned (.int .u64 ((vl Q xs % y : Nat) : Int)) ∧ Below w.heap.size w w2 ∧
        Own .u64 71 w2 w.heap.size v' (cn Q (vl Q xs / y)) ∧ (Calls Tryd.prog 50 #[v] w2 fun e w' => e = .returned v' ∧ w2 = w') ∧ ∀ g, v'.ownBlock = some g → g < w2.heap.size) := by
    intro v w1 ho hb
    have h := divWord_own w.heap.size y v _ w1 ho (dg_cn Q_two _) hy0 bY
    rw [vl_cn Q_two] at h
    refine h.mono fun e w2 ⟨us, he, _, du, hvu, ho2, hg⟩ => ?_
    obtain ⟨v', ho3, hbl, hc⟩ := clip_own _ _ _ _ ho2
    have hb2 : Below w.heap.size w w2 := push_below hb ho hg hb.size
    rw [← cn_vl Q_two du, hvu] at ho3
    refine ⟨v', he, hb2, ho3, hc, fun g hgv => ?_⟩
    obtain ⟨A1, c1, hv1, _, _, _, hlt⟩ := ho3.form
    rw [hv1] at hgv
    cases A1 with
    | none => simp [Value.ownBlock] at hgv
    | some a =>
      simp [Value.ownBlock] at hgv
      have := (hlt a rfl).2
      omega
  have hrQ : vl Q xs % y < Q := Nat.lt_trans (Nat.mod_lt _ hy0) bY
  have hfin : ∀ (v' : Value) (w2 : World), Below w.heap.size w w2 → Own .u64 71 w2 w.heap.size v' (cn Q (vl Q xs / y)) → (∀ g, v'.ownBlock = some g → g < w2.heap.size) →
      ∃ r, (Calls Tryd.prog 50 #[.slice (some ⟨w2.heap.size, 0, none⟩) 1 1] (w2.alloc (.cells #[.int .u64 ((vl Q xs % y : Nat) : Int)] 71)) fun e w' => e = .returned r ∧ w2.alloc (.cells #[.int .u64 ((vl Q xs % y : Nat) : Int)] 71) = w') ∧
        DivRet 71 w (vl Q xs) y (.returned (.tuple #[v', r, .int .i64 0])) (w2.alloc (.cells #[.int .u64 ((vl Q xs % y : Nat) : Int)] 71)) := by
    intro v' w2 hb ho hlt
    have hrow := Row.new w2 .u64 71 #[.int .u64 ((vl Q xs % y : Nat) : Int)] [vl Q xs % y] (Nat.le_refl _) (fun j hj => by
      match j, hj with
      | 0, _ => rfl)
    have hown : Own .u64 71 (w2.alloc (.cells #[.int .u64 ((vl Q xs % y : Nat) : Int)] 71)) w2.heap.size (.slice (some ⟨w2.heap.size, 0, none⟩) 1 1) [vl Q xs % y] := Own.of_row hrow (Nat.le_refl _) rfl (by simp [maxLen])
    obtain ⟨r, ho3, hbl, hc⟩ := clip_own _ _ _ _ hown
    refine ⟨r, hc, fun h => absurd h (by omega), fun _ => ⟨_, _, rfl, ho.alloc _, ?_, fun g hg => ?_⟩, hb.alloc hb.size _⟩
    · rw [← cn_single hrQ]
      exact ho3.mono hb.size
    · have := hlt g hg
      rcases hbl with h | h
      · rw [h]; intro h'; cases h'
      · rw [h]
        simp [Value.ownBlock]
        omega
  have b0 : ((1 : Int) == 0) = false := rfl
  have hlt' : ¬ (((tz xs).length : Int) < 1) := by omega
  rw [h1] at cy
  have Hbb := hide hbb
  generalize (tz xs).length = p at *
  generalize vl Q xs % y = rr at *
  clear hx hy hx' hy' dx dy hnc hc hmd hd hpc hcm hqd hdm hn ey hy1 h1 hpos hrQ hle bY hy0 hbb
  go_enter Tryd.func13, Tryd.ntmps13
  go_wp2_with (first
    | (go_at_call 50; (with_reducible refine cx.mono ?_); rintro e w' ⟨rfl, rfl⟩)
    | (go_at_call 50; (with_reducible refine cy.mono ?_); rintro e w' ⟨rfl, rfl⟩)
    | (go_at_call 21; refine htr.mono ?_; rintro e w1 ⟨v, rfl, ho, hb⟩; have st := step v w1 ho hb; have hcy1 := (hb.cell (p := ⟨bb, bo, none⟩) Hbb.out).trans hcy)
    | (go_at_call 51; refine st.mono ?_; rintro e w2 ⟨v', rfl, hb2, ho2, hcl, hlt2⟩; obtain ⟨r, hcr, fin⟩ := hfin v' w2 hb2 ho2 hlt2)
    | (go_at_call 50; (with_reducible refine hcl.mono ?_); rintro e w' ⟨rfl, rfl⟩)
    | (go_at_call 50; (with_reducible refine hcr.mono ?_); rintro e w' ⟨rfl, rfl⟩))
  go_ret3
  exact fin
end Go.Proofs.YtkonakjchimniaaDoor
