/-
  strings.Lines: what its function hands to a loop, line by line; Clone; the two kinds of bytes.
-/
import Derived.Test.YtinbeodihhjfmaaRbox
import Derived.Test.YtinbeodihhjfmaaFld1
import Derived.Test.YtinbeodihhjfmaaShelf
import Derived.Test.YtinbeodihhjfmaaEl
import Derived.RangeFuncBound
import Derived.RangeFuncCalls
import Derived.RangeFuncLeaves
import Derived.Shelf.Abstract
import Derived.Shelf.RegionOpen
import Derived.WalkKit
import Derived.OwnWalkIn
import Derived.TacticsInMore
import Derived.LoopNIn
import Derived.LoopIn
namespace Go.Proofs.Ytinbeodihhjfmaa
open Go Go.RowKit Go.Shelf
set_option linter.unusedVariables false
set_option linter.unusedSimpArgs false
set_option maxRecDepth 100000

theorem ba_list (s : ByteArray) : ba s.data.toList = s := by
  cases s; rfl
theorem ba_size (x : Bs) : (ba x).size = x.length := by
  show x.toArray.size = x.length
  simp
theorem ba_take (p r : Bs) (c : UInt8) : (ba (p ++ c :: r)).extract 0 (p.length + 1) = ba (p ++ [c]) := by
  rw [Lib.extract_eq]
  show ba (((p ++ c :: r).drop 0).take (p.length + 1 - 0)) = ba (p ++ [c])
  rw [List.drop_zero, Nat.sub_zero, show p ++ c :: r = (p ++ [c]) ++ r by simp, List.take_left' (by simp)]
theorem ba_drop (p r : Bs) (c : UInt8) : (ba (p ++ c :: r)).extract (p.length + 1) (ba (p ++ c :: r)).size = ba r := by
  rw [Lib.extract_eq]
  show ba (((p ++ c :: r).drop (p.length + 1)).take ((ba (p ++ c :: r)).size - (p.length + 1))) = ba r
  rw [show p ++ c :: r = (p ++ [c]) ++ r by simp, List.drop_left' (by simp), List.take_of_length_le (by rw [ba_size, List.length_append, List.length_append]; simp)]
theorem idx_cut : ∀ (s : Bs), (∃ p r, s = p ++ 10 :: r ∧ (∀ c ∈ p, c ≠ 10) ∧ Lib.indexByte s 10 = (p.length : Int)) ∨ ((∀ c ∈ s, c ≠ 10) ∧ Lib.indexByte s 10 = -1)
  | [] => .inr ⟨fun c h => (by cases h), rfl⟩
  | b :: l => by
    by_cases hb : b = 10
    · subst hb
      exact .inl ⟨[], l, rfl, fun c h => (by cases h), rfl⟩
    · rcases idx_cut l with ⟨p, r, e, hp, hi⟩ | ⟨hn, hi⟩
      · refine .inl ⟨b :: p, r, by rw [e]; rfl, fun c h => ?_, ?_⟩
        · rcases List.mem_cons.1 h with rfl | h
          · exact hb
          · exact hp c h
        · have h1 : (b == 10) = false := by simpa using hb
          have h2 : ((p.length : Int) == -1) = false := by rw [beq_eq_false_iff_ne]; omega
          rw [Lib.indexByte, hi, h1, h2]
          simp
      · refine .inr ⟨fun c h => ?_, ?_⟩
        · rcases List.mem_cons.1 h with rfl | h
          · exact hb
          · exact hn c h
        · have h1 : (b == 10) = false := by simpa using hb
          rw [Lib.indexByte, hi, h1]
          rfl
section
attribute [local go_sem] Oper.semAt_some
set_option maxHeartbeats 4000000 in
theorem lines1_in (n : Nat) (hn : 1 ≤ n) (l b : Nat) (s : Bs) (hs : s.length ≤ 65536) (J Jx : List Bs → World → Prop) (hJ : AbB b J)
    (hY : ∀ pre x W, J pre W → (pre ++ [x]) <+: lnsOf s → YieldAt Fence.wide (n - 1) Try.prog l #[.string (ba x)] W fun e W' =>
      (e = .returned (.bool true) ∧ J (pre ++ [x]) W' ∧ W'.heap[b]? = W.heap[b]?) ∨ (e = .returned (.bool false) ∧ Jx (pre ++ [x]) W'))
    (W : World) (hb : Boxed W b 9 (.string (ba s))) (h0 : J [] W) :
    CallsIn Fence.wide n Try.prog 15 #[.func (.yield l) #[] #[], .pointer (some ⟨b, 0, none⟩)] W fun e W' => (∃ v, e = .returned v) ∧ ((∃ xs, xs = lnsOf s ∧ J xs W') ∨ (∃ pre, pre <+: lnsOf s ∧ Jx pre W')) := by
  refine callsIn_of_wp Try.func15 rfl trivial ?_ rfl
  simp only [Try.ntmps15, List.size_toArray, List.length_cons, List.length_nil, Nat.reduceAdd, Nat.reduceSub, Array.replicate_succ, Array.replicate_zero, List.push_toArray, List.append_toArray, List.nil_append, List.cons_append]
  gi_wp2
  gi_loopw [] (fun wr => ∃ (pre : List Bs) (t : Bs), lnsOf s = pre ++ lnsOf t ∧ t.length ≤ 65536 ∧ Boxed wr b 9 (.string (ba t)) ∧ J pre wr)
    (fun wr => match wr.cell? ⟨b, 0, none⟩ with | some (.string t) => t.size | _ => 0)
  case atStart => exact ⟨[], s, rfl, hs, hb, h0⟩
  case round =>
    obtain ⟨pre, t, hx, ht, hbx, hJs⟩ := hrel
    have hz := ba_size t
    obtain ⟨T, hT⟩ : ∃ T, T = ba t := ⟨_, rfl⟩
    rw [← hT] at hbx hz
    have HT := hide hT
    have HX := hide hx
    clear hT hx
    have hc := hbx.cell
    have hf := hbx.frozen
    rcases Nat.eq_zero_or_pos t.length with h0 | h0
    · obtain rfl : t = [] := List.length_eq_zero_iff.1 h0
      have e0 : T.size = 0 := hz
      have q0 : decide ((0 : Int) < (T.size : Int)) = false := by rw [e0]; rfl
      have q1 : decide (0 < T.size) = false := by rw [e0]; rfl
      gi_wp2
      go_end0
      exact ⟨⟨_, rfl⟩, .inl ⟨pre, by rw [HX.out]; simp [lnsOf], hJs⟩⟩
    · have e0 : 0 < T.size := by rw [hz]; exact h0
      have e1 : T.size ≤ 65536 := by rw [hz]; exact ht
      have q0 : decide ((0 : Int) < (T.size : Int)) = true := decide_eq_true (by omega)
      have q1 : decide (0 < T.size) = true := decide_eq_true e0
      rcases idx_cut t with ⟨p, r, rfl, hp, hi⟩ | ⟨hne, hi⟩
      · have IB := hide (show ∀ W, CallsIn Fence.wide (n - 1) Try.prog 16 #[.string T, .int .u8 10] W fun e w' => e = .returned (.int .i64 (p.length : Int)) ∧ w' = W from fun W => callsIn_wide.2 ((Try.strings_IndexByte T 10 W).mono fun e w' ⟨h1, h2⟩ => ⟨by rw [h1, HT.out, ← hi]; rfl, h2⟩))
        have q2 : decide ((0 : Int) ≤ (p.length : Int)) = true := decide_eq_true (by omega)
        have hpl : p.length + 1 ≤ T.size := by rw [hz]; simp
        have hlr : p.length + r.length < T.size := by rw [hz]; simp
        clear hz
        have hX1 : T.extract 0 (p.length + 1) = ba (p ++ [10]) := by rw [HT.out]; exact ba_take p r 10
        have hX2 : T.extract (p.length + 1) T.size = ba r := by rw [HT.out]; exact ba_drop p r 10
        gi_wp2_with (refine ⟨trivial, ?_⟩; gi_at_call 16; refine (IB.out _).mono ?_; rintro e w9 ⟨rfl, rfl⟩)
        have hf9 : w9.drew.frozen? { block := b, off := 0 } = false := hf
        have hg9 : w9.grownBy (w9.setCell { block := b, off := 0 } (.string (ba r))).drew (some b) := only_drew (only_set (p := ⟨b, 0, none⟩) (only_refl w9 _) rfl _)
        have hJ2 := hJ pre _ _ _ hJs hg9 (fun r e => by injection e with e; exact e.symm)
        have hb2 : Boxed (w9.setCell { block := b, off := 0 } (.string (ba r))).drew b 9 (.string (ba r)) := hbx.set (.string (ba r))
        have EX := hide (show lnsOf s = pre ++ (p ++ [10]) :: lnsOf r by rw [HX.out, lnsOf_cut p r hp])
        have hr : r.length ≤ 65536 := by simp at ht; omega
        have hms : r.length < T.size := by omega
        obtain ⟨fn, tmps, assign, body, hy, hR⟩ := hY pre (p ++ [10]) _ hJ2 (by rw [EX.out]; exact ⟨lnsOf r, by simp⟩)
        have HM := hide hms
        have HR := hide hr
        have HB2 := hide hb2
        have HC := hide hc
        gi_region
        gi_wp2
        refine hR.mono ?_
        rintro e W3 (⟨rfl, hJ3, hk3⟩ | ⟨rfl, hJx3⟩)
        · have hb3 : Boxed W3 b 9 (.string (ba r)) := hk3.trans HB2.out
          gi_wp2
          go_roundw
          case rel => exact ⟨pre ++ [p ++ [10]], r, by rw [EX.out]; simp, HR.out, hb3, hJ3⟩
          case measure => rw [hb3.cell, HC.out]; show (ba r).size < T.size; rw [ba_size]; exact HM.out
        · gi_wp2
          refine bodyPost_ret (results_none rfl _ _ _) rfl ?_
          exact ⟨⟨_, rfl⟩, .inr ⟨pre ++ [p ++ [10]], by rw [EX.out]; exact ⟨lnsOf r, by simp⟩, hJx3⟩⟩
      · have IB := hide (show ∀ W, CallsIn Fence.wide (n - 1) Try.prog 16 #[.string T, .int .u8 10] W fun e w' => e = .returned (.int .i64 (-1)) ∧ w' = W from fun W => callsIn_wide.2 ((Try.strings_IndexByte T 10 W).mono fun e w' ⟨h1, h2⟩ => ⟨by rw [h1, HT.out, ← hi]; rfl, h2⟩))
        have hg9 : wr.grownBy (wr.setCell { block := b, off := 0 } (.string (ba []))) (some b) := only_set (p := ⟨b, 0, none⟩) (only_refl wr _) rfl _
        have hJ2 := hJ pre _ _ _ hJs hg9 (fun r e => by injection e with e; exact e.symm)
        have hb2 : Boxed (wr.setCell { block := b, off := 0 } (.string (ba []))) b 9 (.string (ba [])) := hbx.set (.string (ba []))
        have EX := hide (show lnsOf s = pre ++ [t] by rw [HX.out, lnsOf_last t (fun e => by rw [e] at h0; simp at h0) hne])
        obtain ⟨fn, tmps, assign, body, hy, hR⟩ := hY pre t _ hJ2 (by rw [EX.out]; exact List.prefix_refl _)
        rw [← HT.out] at hy
        have HM := hide e0
        have HB2 := hide hb2
        have HC := hide hc
        gi_wp2_with (refine ⟨trivial, ?_⟩; gi_at_call 16; refine (IB.out _).mono ?_; rintro e w9 ⟨rfl, rfl⟩)
        refine hR.mono ?_
        rintro e W3 (⟨rfl, hJ3, hk3⟩ | ⟨rfl, hJx3⟩)
        · have hb3 : Boxed W3 b 9 (.string (ba [])) := hk3.trans HB2.out
          gi_wp2
          go_roundw
          case rel => exact ⟨pre ++ [t], [], by rw [EX.out]; simp [lnsOf], by simp, hb3, hJ3⟩
          case measure => rw [hb3.cell, HC.out]; exact HM.out
        · gi_wp2
          refine bodyPost_ret (results_none rfl _ _ _) rfl ?_
          exact ⟨⟨_, rfl⟩, .inr ⟨pre ++ [t], by rw [EX.out]; exact List.prefix_refl _, hJx3⟩⟩
end
end Go.Proofs.Ytinbeodihhjfmaa
