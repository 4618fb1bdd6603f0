
/-
  Queues: a node goes up.
-/
import Derived.Test.YtpfeacdhplbblaaGreatQu3
import Derived.ScopeJumps
import Derived.WalkMore


namespace Go.Proofs.YtpfeacdhplbblaaGreat
open Go.RowKit Go.Proofs.YtpfeacdhplbblaaGreat.Num
set_option linter.unusedVariables false
set_option linter.unusedSimpArgs false
set_option maxRecDepth 100000
def RiRet (w : World) (B g : Nat) (o : Int) (v : Sl) (l : List Nx) (M k : Nat) (e : Ending) (w' : World) : Prop :=
  e = .returned (.tuple #[]) ∧ ∃ l', Qo w' B g o v l' M ∧ l'.Perm l ∧ (∀ n, k < n → n ≤ l.length → Hu o l k n → Hn o l' n) ∧ Efq w w' B g v v
def Ri (w : World) (B g : Nat) (o : Int) (v : Sl) (l : List Nx) (M k m : Nat) (l' : List Nx) (W : World) : Prop :=
  Qo W B g o v l' M ∧ l'.Perm l ∧ (∀ n, k < n → n ≤ l.length → Hu o l k n → Hu o l' m n) ∧ Efq w W B g v v ∧ m ≤ k
set_option maxHeartbeats 16000000 in
theorem qrise_c {w : World} {B g k M : Nat} {o : Int} {v : Sl} {l : List Nx} (hq : Qo w B g o v l M) (hk : k < l.length) (h1 : 1 ≤ M) (hM : M ≤ 1000000) :
    Calls Tryz.prog 25 #[.pointer (some ⟨g, 0, none⟩), .int .i64 (k : Int)] w (RiRet w B g o v l M k) := by
  have KL := hide hk
  have R0 := hide (show Ri w B g o v l M k k l w from ⟨hq, List.Perm.refl _, fun n a b c => c, Efq.refl _ _ _ _, Nat.le_refl _⟩)
  have K9 := hide (show k < 9223372036854775807 by
    obtain ⟨x, hx⟩ := len_of (d := l) (k := k) hk
    obtain ⟨a, c, rfl, hB, hlt, hl1, hl2, hag⟩ := hq.form hx
    unfold maxLen at hl2
    omega)
  clear hq hk
  go_enter Tryz.func25, Tryz.ntmps25
  go_wp2_with fail
  refine wp_scope_jumps 0 (fun a' wr => ∃ (l1 : List Nx) (m : Nat), (∃ (u4 u5 u6 u7 u8 u9 u10 u11 u12 u13 u14 u15 u16 u17 u18 u19 u20 : Value), a' = { tmps := #[.pointer (some ⟨g, 0, none⟩), .int .i64 (m : Int), undef, undef, u4, u5, u6, u7, u8, u9, u10, u11, u12, u13, u14, u15, u16, u17, u18, u19, u20], defers := [] }) ∧ Hid (Ri w B g o v l M k m l1 wr)) (fun a' _ => (intOf (a'.tmps.getD 1 undef)).toNat) rfl ?_ ?_
  · go_wp2_with fail
    go_step3
    obtain ⟨l1, hl1⟩ : ∃ l1, l1 = l := ⟨_, rfl⟩
    obtain ⟨m, hm⟩ : ∃ m, m = k := ⟨_, rfl⟩
    obtain ⟨wr, hwr⟩ : ∃ wr, wr = w := ⟨_, rfl⟩
    have RI := hide (show Ri w B g o v l M k m l1 wr by rw [hl1, hm, hwr]; exact R0.out)
    rw [← hm, ← hwr]
    clear hl1 hm hwr R0
    by_cases h0 : m = 0
    · subst h0
      have e1 : IntKind.i64.wrap (((0 : Nat) : Int) - 1) = -1 := by decide
      have e2 : Int.tdiv (-1) 2 = 0 := by decide
      go_wp2_with fail
      simp only [Exit.jump]
      go_end0
      exact ⟨rfl, l1, RI.out.1, RI.out.2.1, fun n a b c => (RI.out.2.2.1 n a b c).done (.inl rfl), RI.out.2.2.2.1⟩
    · obtain ⟨q, hq⟩ : ∃ q, q = m - 1 := ⟨_, rfl⟩
      obtain ⟨p, hp⟩ : ∃ p, p = q / 2 := ⟨_, rfl⟩
      have hm9 : m < 9223372036854775807 := by have := RI.out.2.2.2.2; have := K9.out; omega
      have e1 : IntKind.i64.wrap ((m : Int) - 1) = (q : Int) := by rw [IntWalk.i64_in _ (by omega)]; omega
      have e2 : Int.tdiv (q : Int) 2 = (p : Int) := by rw [hp]; exact (Int.ofNat_tdiv q 2).symm
      have e3 : IntKind.i64.wrap (p : Int) = (p : Int) := IntWalk.i64_in _ (by omega)
      have t1 : decide ((0 : Int) < (m : Int)) = true := decide_eq_true (by omega)
      have t2 : decide (0 < m) = true := decide_eq_true (by omega)
      have hpm : p = (m - 1) / 2 := by rw [hp, hq]
      have LL := RI.out.2.1.length_eq
      obtain ⟨x, hx⟩ := len_of (d := l1) (k := m) (by have := RI.out.2.2.2.2; have := KL.out; omega)
      obtain ⟨y, hy⟩ := len_of (d := l1) (k := p) (by have := RI.out.2.2.2.2; have := KL.out; omega)
      have HX := hide hx
      have HY := hide hy
      have HP := hide hpm
      have M0 := hide h0
      have hlt : p < m := by omega
      clear hx hy hq hp hpm h0
      go_wp2_with fail
      refine (qahead_c (i := m) (j := p) RI.out.1 HX.out HY.out h1 hM).mono ?_
      rintro e w2 ⟨⟨t, rfl, ht⟩, bx⟩
      have HT := hide ht
      have HB := hide (show B ≤ wr.heap.size from Nat.le_trans RI.out.1.2.1 (Nat.le_of_lt RI.out.1.1.lt))
      have RJ := hide (show Ri w B g o v l M k m l1 w2 from ⟨RI.out.1.step bx, RI.out.2.1, RI.out.2.2.1, RI.out.2.2.2.1.step bx HB.out, RI.out.2.2.2.2⟩)
      clear ht bx RI HB
      cases t with
      | false =>
        go_wp2_with fail
        simp only [Exit.jump]
        go_end0
        exact ⟨rfl, l1, RJ.out.1, RJ.out.2.1, fun n a b c => (RJ.out.2.2.1 n a b c).done (.inr ⟨x, y, HX.out, by rw [← HP.out]; exact HY.out, fun h => by have := HT.out.2 h; cases this⟩), RJ.out.2.2.2.1⟩
      | true =>
        go_wp2_with fail
        refine (qswap_c (i := m) (j := p) RJ.out.1 HX.out HY.out (by omega)).mono ?_
        rintro e w3 ⟨rfl, q3, ef⟩
        have ri2 : Ri w B g o v l M k p (swp l1 m p x y) w3 := ⟨q3, (swp_perm HX.out HY.out (by omega)).trans RJ.out.2.1, fun n a b c => by
          have h9 := (RJ.out.2.2.1 n a b c).swap (by omega) (by have := RJ.out.2.2.2.2; omega) (by rw [RJ.out.2.1.length_eq]; exact b) HX.out (by rw [← HP.out]; exact HY.out) (HT.out.1 (by trivial))
          rw [← HP.out] at h9
          exact h9, RJ.out.2.2.2.1.trans ef, by have := RJ.out.2.2.2.2; omega⟩
        clear q3 ef
        obtain ⟨l2, hl2⟩ : ∃ l2, l2 = swp l1 m p x y := ⟨_, rfl⟩
        rw [← hl2] at ri2
        have RK := hide ri2
        clear ri2 hl2
        go_wp2_with fail
        go_step3
        have ri2 := RK.out
        exact ⟨rfl, l2, p, ⟨_, _, _, _, _, _, _, _, _, _, _, _, _, _, _, _, _, rfl⟩, hide ri2⟩
  · rintro a' wr ⟨l1, m, ⟨u4, u5, u6, u7, u8, u9, u10, u11, u12, u13, u14, u15, u16, u17, u18, u19, u20, rfl⟩, RI⟩
    clear R0
    by_cases h0 : m = 0
    · subst h0
      have e1 : IntKind.i64.wrap (((0 : Nat) : Int) - 1) = -1 := by decide
      have e2 : Int.tdiv (-1) 2 = 0 := by decide
      go_wp2_with fail
      simp only [Exit.jump]
      go_end0
      exact ⟨rfl, l1, RI.out.1, RI.out.2.1, fun n a b c => (RI.out.2.2.1 n a b c).done (.inl rfl), RI.out.2.2.2.1⟩
    · obtain ⟨q, hq⟩ : ∃ q, q = m - 1 := ⟨_, rfl⟩
      obtain ⟨p, hp⟩ : ∃ p, p = q / 2 := ⟨_, rfl⟩
      have hm9 : m < 9223372036854775807 := by have := RI.out.2.2.2.2; have := K9.out; omega
      have e1 : IntKind.i64.wrap ((m : Int) - 1) = (q : Int) := by rw [IntWalk.i64_in _ (by omega)]; omega
      have e2 : Int.tdiv (q : Int) 2 = (p : Int) := by rw [hp]; exact (Int.ofNat_tdiv q 2).symm
      have e3 : IntKind.i64.wrap (p : Int) = (p : Int) := IntWalk.i64_in _ (by omega)
      have t1 : decide ((0 : Int) < (m : Int)) = true := decide_eq_true (by omega)
      have t2 : decide (0 < m) = true := decide_eq_true (by omega)
      have hpm : p = (m - 1) / 2 := by rw [hp, hq]
      have LL := RI.out.2.1.length_eq
      obtain ⟨x, hx⟩ := len_of (d := l1) (k := m) (by have := RI.out.2.2.2.2; have := KL.out; omega)
      obtain ⟨y, hy⟩ := len_of (d := l1) (k := p) (by have := RI.out.2.2.2.2; have := KL.out; omega)
      have HX := hide hx
      have HY := hide hy
      have HP := hide hpm
      have M0 := hide h0
      have hlt : p < m := by omega
      clear hx hy hq hp hpm h0
      go_wp2_with fail
      refine (qahead_c (i := m) (j := p) RI.out.1 HX.out HY.out h1 hM).mono ?_
      rintro e w2 ⟨⟨t, rfl, ht⟩, bx⟩
      have HT := hide ht
      have HB := hide (show B ≤ wr.heap.size from Nat.le_trans RI.out.1.2.1 (Nat.le_of_lt RI.out.1.1.lt))
      have RJ := hide (show Ri w B g o v l M k m l1 w2 from ⟨RI.out.1.step bx, RI.out.2.1, RI.out.2.2.1, RI.out.2.2.2.1.step bx HB.out, RI.out.2.2.2.2⟩)
      clear ht bx RI HB
      cases t with
      | false =>
        go_wp2_with fail
        simp only [Exit.jump]
        go_end0
        exact ⟨rfl, l1, RJ.out.1, RJ.out.2.1, fun n a b c => (RJ.out.2.2.1 n a b c).done (.inr ⟨x, y, HX.out, by rw [← HP.out]; exact HY.out, fun h => by have := HT.out.2 h; cases this⟩), RJ.out.2.2.2.1⟩
      | true =>
        go_wp2_with fail
        refine (qswap_c (i := m) (j := p) RJ.out.1 HX.out HY.out (by omega)).mono ?_
        rintro e w3 ⟨rfl, q3, ef⟩
        have ri2 : Ri w B g o v l M k p (swp l1 m p x y) w3 := ⟨q3, (swp_perm HX.out HY.out (by omega)).trans RJ.out.2.1, fun n a b c => by
          have h9 := (RJ.out.2.2.1 n a b c).swap (by omega) (by have := RJ.out.2.2.2.2; omega) (by rw [RJ.out.2.1.length_eq]; exact b) HX.out (by rw [← HP.out]; exact HY.out) (HT.out.1 (by trivial))
          rw [← HP.out] at h9
          exact h9, RJ.out.2.2.2.1.trans ef, by have := RJ.out.2.2.2.2; omega⟩
        clear q3 ef
        obtain ⟨l2, hl2⟩ : ∃ l2, l2 = swp l1 m p x y := ⟨_, rfl⟩
        rw [← hl2] at ri2
        have RK := hide ri2
        clear ri2 hl2
        go_wp2_with fail
        go_step3
        have ri2 := RK.out
        exact ⟨rfl, ⟨l2, p, ⟨_, _, _, _, _, _, _, _, _, _, _, _, _, _, _, _, _, rfl⟩, hide ri2⟩, by simp [intOf]; omega⟩
end Go.Proofs.YtpfeacdhplbblaaGreat
