/-
  The document's own answer for whole numbers: Parse.
-/
import Derived.Test.YtkonakjchimniaaDoorBundleE

namespace Go.Proofs.YtkonakjchimniaaDoor
open Go.RowKit Go.Proofs.YtkonakjchimniaaDoor.Num
set_option linter.unusedVariables false
set_option maxRecDepth 100000

theorem qret2 {fn : Func} {p q : Tmp} (h : fn.results = #[.cell p 45, .tmp q]) (tmps : Array Value) (w : World) (g : Nat) (cs : Array Value) (hs : cs.size = 2)
    (hp : tmps.getD p undef = .pointer (some ⟨g, 0, none⟩)) (hg : w.heap[g]? = some (.cells cs 45 (0, 0))) : (results fn tmps).run Tryd.prog w = .ok (.tuple #[.agg cs, tmps.getD q undef]) w := by
  rw [results_cell_tmp h, hp]
  simp [asAddr, run_loadVar_row (P := Tryd.prog) w g 45 45 cs (0, 0) _ hg Tryd.underlying45 rfl (by rw [hs]; kernel_rfl), Result.andThen]
theorem pow_five (k : Nat) : Q ^ k ≤ 10000 ^ (5 * k) := by
  rw [Nat.pow_mul]
  exact Nat.pow_le_pow_left (by decide +kernel) k
/-- What the document's own Parse of digits leaves, as a number. -/
theorem rparse_n (R : ByteArray) (w : World) (L : Nat) (hL : ∃ k, k = 200 ∧ 5 * k ≤ L) (hm : R.size ≤ 9223372036854775807) :
    Calls Tryd.prog 77 #[.string R] w fun e w' => ∃ v, e = .returned (.tuple #[v, .int .i64 (pcode R.data.toList : Int)]) ∧ Ic w' v (if pcode R.data.toList = 0 then dval R.data.toList else 0) L ∧ Below w.heap.size w w' := by
  refine (rparse_any R w hm).mono fun e w' ⟨v, he, ho, hb⟩ => ⟨v, he, ?_, hb⟩
  by_cases h : pcode R.data.toList = 0
  · rw [if_pos h] at ho ⊢
    have h1 := pcode_lt h
    obtain ⟨k, hk, hkL⟩ := hL
    rw [← hk] at h1
    exact Ic.of ho (Nat.lt_of_lt_of_le h1 (Nat.le_trans (pow_five k) (Nat.pow_le_pow_right (by omega) hkL)))
  · rw [if_neg h] at ho ⊢
    rw [← cn_zero 10000] at ho
    exact Ic.of ho (Nat.pow_pos (by omega))
def QpRet (w : World) (l : List UInt8) (e : Ending) (w' : World) : Prop :=
  ∃ v, e = .returned (.tuple #[v, .int .i64 (zpcode l : Int)]) ∧ Qi w' v (if zpcode l = 0 then zval l else 0) 1000 ∧ Below w.heap.size w w'
theorem zi_if (s : Bool) (p : Prop) [Decidable p] (d : Nat) : zi s (if p then d else 0) = if p then zi s d else 0 := by
  split
  · rfl
  · unfold zi; cases s <;> rfl

set_option maxHeartbeats 8000000 in
theorem qparse_any (S : ByteArray) (w : World) (hs : S.size ≤ 9223372036854775807) : Calls Tryd.prog 43 #[.string S] w (QpRet w S.data.toList) := by
  have a1 : Below w.heap.size w (w.alloc qblk) := (Below.refl _ _).alloc (Nat.le_refl _) _
  have B := hide a1
  have Z := hide (Qb.new w)
  obtain ⟨l, hl⟩ : ∃ l, S.data.toList = l := ⟨_, rfl⟩
  have hlen : l.length = S.size := by rw [← hl, Array.length_toList]; rfl
  rw [hl]
  clear a1
  by_cases hsign : ∃ r, l = 45 :: r ∨ l = 43 :: r
  · obtain ⟨r, hsign⟩ := hsign
    have hrest : zrest l = (S.extract 1 S.size).data.toList := by
      rcases hsign with h | h
      · rw [cut_one S 45 r (by rw [hl, h]), h]; rfl
      · rw [cut_one S 43 r (by rw [hl, h]), h]; rfl
    have h0 : 0 < S.size := by rw [← hlen]; rcases hsign with h | h <;> rw [h] <;> simp
    have h1 : 1 ≤ S.size := h0
    have t0 : decide ((0 : Int) < (S.size : Int)) = true := decide_eq_true (by omega)
    have t0' : decide (0 < S.size) = true := decide_eq_true h0
    have hm : (S.extract 1 S.size).size ≤ 9223372036854775807 := by rw [ByteArray.size_extract]; omega
    have hy : ∃ (y : Nat) (b : Bool), (S[0]'h0).toNat = y ∧ ((y = 45 ∧ b = true) ∨ (y = 43 ∧ b = false)) ∧ zsign l = b := by
      have h4 : S[0]'h0 = S.data.toList[0]'(by rw [hl]; rcases hsign with h | h <;> rw [h] <;> simp) := rfl
      rcases hsign with h | h
      · refine ⟨45, true, ?_, .inl ⟨rfl, rfl⟩, by rw [h]; rfl⟩
        rw [h4]
        have h5 : S.data.toList = 45 :: r := by rw [hl, h]
        simp only [h5, List.getElem_cons_zero]
        rfl
      · refine ⟨43, false, ?_, .inr ⟨rfl, rfl⟩, by rw [h]; rfl⟩
        rw [h4]
        have h5 : S.data.toList = 43 :: r := by rw [hl, h]
        simp only [h5, List.getElem_cons_zero]
        rfl
    obtain ⟨k, b, hy, hyb, hzs⟩ := hy
    have HP := hide (fun W => rparse_n (S.extract 1 S.size) W 1000 ⟨200, rfl, by omega⟩ hm)
    rw [← hrest] at HP
    obtain ⟨y, hyy⟩ : ∃ y, (if pcode (zrest l) = 0 then dval (zrest l) else 0) = y := ⟨_, rfl⟩
    have hval : Hid (zi b y = if zpcode l = 0 then zval l else 0) := hide (by rw [← hyy, zi_if]; unfold zpcode zval; rw [hzs])
    rw [hyy] at HP
    clear hsign hrest hm hzs hl hlen hs hyy
    rcases hyb with ⟨rfl, rfl⟩ | ⟨rfl, rfl⟩
    all_goals
      go_enter Tryd.func43, Tryd.ntmps43
      go_wp2_with fail
      refine (HP.out _).mono ?_
      rintro e w1 ⟨v, rfl, ic, b1⟩
      have B := hide (Below.step B.out B.out.size b1)
      have HZ : Hid (w.heap.size < w1.heap.size) := hide (Nat.lt_of_lt_of_le (by simp) b1.size)
      have Z := hide (Z.out.step (by simp) b1)
      have IC := hide ic.iw
      clear ic b1
      go_wp2_with fail
      refine (form_any IC.out (by omega) rfl).mono ?_
      rintro e w2 ⟨v2, rfl, qv, b2⟩
      obtain ⟨sg, A, n, c, rfl, k0, k1, f0, f1, fin⟩ := q_ret (w0 := w) qv (Z.out.step HZ.out b2) (Nat.le_refl _) (Below.step B.out B.out.size b2)
      have F := hide fin
      clear fin qv b2 B Z IC
      go_wp2_with fail
      refine bodyPost_ret (qret2 (p := 2) (q := 3) rfl _ _ _ #[.bool sg, .slice A n c] rfl rfl F.out.1) rfl ?_
      obtain ⟨-, v3, e3, q3, b3⟩ := F.out
      injection e3 with e3
      exact ⟨v3, by rw [← e3]; rfl, by rw [← hval.out]; exact q3, b3⟩
  · have hrest : zrest l = S.data.toList := by
      rw [hl]
      unfold zrest
      split
      · rename_i r h; exact absurd ⟨_, .inl rfl⟩ hsign
      · rename_i r h; exact absurd ⟨_, .inr rfl⟩ hsign
      · rfl
    have hzs : zsign l = false := by
      unfold zsign
      split
      · rename_i r h; exact absurd ⟨_, .inl rfl⟩ hsign
      · rfl
    have hy : (decide ((0 : Int) < (S.size : Int)) = false ∧ decide (0 < S.size) = false) ∨ ((decide ((0 : Int) < (S.size : Int)) = true ∧ decide (0 < S.size) = true) ∧ ∃ (h0 : 0 < S.size) (y : Nat), (S[0]'h0).toNat = y ∧ ((y : Int) == 43) = false ∧ ((y : Int) == 45) = false) := by
      cases h : l with
      | nil => left; rw [h] at hlen; exact ⟨decide_eq_false (by simp at hlen; omega), decide_eq_false (by simp at hlen; omega)⟩
      | cons b r =>
        right
        have h0 : 0 < S.size := by rw [← hlen, h]; simp
        refine ⟨⟨decide_eq_true (by omega), decide_eq_true h0⟩, h0, _, rfl, ?_, ?_⟩
        · have h4 : S[0]'h0 = S.data.toList[0]'(by rw [hl, h]; simp) := rfl
          rw [h4]
          simp only [hl, h, List.getElem_cons_zero]
          rw [beq_eq_false_iff_ne]
          intro h5
          have h6 : b = 43 := by rw [← UInt8.toNat_inj]; show b.toNat = 43; omega
          exact hsign ⟨r, .inr (by rw [h, h6])⟩
        · have h4 : S[0]'h0 = S.data.toList[0]'(by rw [hl, h]; simp) := rfl
          rw [h4]
          simp only [hl, h, List.getElem_cons_zero]
          rw [beq_eq_false_iff_ne]
          intro h5
          have h6 : b = 45 := by rw [← UInt8.toNat_inj]; show b.toNat = 45; omega
          exact hsign ⟨r, .inl (by rw [h, h6])⟩
    have HP := hide (fun W => rparse_n S W 1000 ⟨200, rfl, by omega⟩ hs)
    rw [← hrest] at HP
    obtain ⟨y, hyy⟩ : ∃ y, (if pcode (zrest l) = 0 then dval (zrest l) else 0) = y := ⟨_, rfl⟩
    have hval : Hid (zi false y = if zpcode l = 0 then zval l else 0) := hide (by rw [← hyy, zi_if]; unfold zpcode zval; rw [hzs])
    rw [hyy] at HP
    clear hsign hrest hzs hl hlen hs hyy
    rcases hy with ⟨t0, t0'⟩ | ⟨⟨t0, t0'⟩, h0, k, hy, ty1, ty2⟩
    all_goals
      go_enter Tryd.func43, Tryd.ntmps43
      go_wp2_with fail
      refine (HP.out _).mono ?_
      rintro e w1 ⟨v, rfl, ic, b1⟩
      have B := hide (Below.step B.out B.out.size b1)
      have HZ : Hid (w.heap.size < w1.heap.size) := hide (Nat.lt_of_lt_of_le (by simp) b1.size)
      have Z := hide (Z.out.step (by simp) b1)
      have IC := hide ic.iw
      clear ic b1
      go_wp2_with fail
      refine (form_any (s := false) (z := zi false y) IC.out (by omega) rfl).mono ?_
      rintro e w2 ⟨v2, rfl, qv, b2⟩
      obtain ⟨sg, A, n, c, rfl, k0, k1, f0, f1, fin⟩ := q_ret (w0 := w) qv (Z.out.step HZ.out b2) (Nat.le_refl _) (Below.step B.out B.out.size b2)
      have F := hide fin
      clear fin qv b2 B Z IC
      go_wp2_with fail
      refine bodyPost_ret (qret2 (p := 2) (q := 3) rfl _ _ _ #[.bool sg, .slice A n c] rfl rfl F.out.1) rfl ?_
      obtain ⟨-, v3, e3, q3, b3⟩ := F.out
      injection e3 with e3
      exact ⟨v3, by rw [← e3]; rfl, by rw [← hval.out]; exact q3, b3⟩
end Go.Proofs.YtkonakjchimniaaDoor
