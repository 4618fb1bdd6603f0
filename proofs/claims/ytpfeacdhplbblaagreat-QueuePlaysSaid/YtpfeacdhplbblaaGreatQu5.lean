
/-
  Queues: a node goes down.
-/
import Derived.Test.YtpfeacdhplbblaaGreatQu4

namespace Go.Proofs.YtpfeacdhplbblaaGreat
open Go.RowKit Go.Proofs.YtpfeacdhplbblaaGreat.Num
set_option linter.unusedVariables false
set_option linter.unusedSimpArgs false
set_option maxRecDepth 100000
def Fi (o : Int) (l : List Nx) (n m b f : Nat) : Prop :=
  (f = m ∨ (0 < f ∧ f < n ∧ (f - 1) / 2 = m ∧ ∀ x y, l[f]? = some x → l[m]? = some y → ah o x y)) ∧ ∀ i x y, 2 * m + 1 ≤ i → i < b → i < n → l[i]? = some x → l[f]? = some y → ¬ ah o x y
theorem Fi.start (o : Int) (l : List Nx) (n m : Nat) : Fi o l n m (2 * m + 1) m := ⟨.inl rfl, fun i x y a b => by omega⟩
theorem Fi.skip {o : Int} {l : List Nx} {n m b f : Nat} {x y : Nx} (h : Fi o l n m b f) (hx : l[b]? = some x) (hy : l[f]? = some y) (hn : ¬ ah o x y) : Fi o l n m (b + 1) f := by
  refine ⟨h.1, fun i x' y' a c d e e2 => ?_⟩
  by_cases e3 : i = b
  · subst e3
    rw [hx] at e; rw [hy] at e2
    cases e; cases e2
    exact hn
  · exact h.2 i x' y' a (by omega) d e e2
theorem Fi.take {o : Int} {l : List Nx} {n m b f : Nat} {x y : Nx} (h : Fi o l n m b f) (hx : l[b]? = some x) (hy : l[f]? = some y) (hn : ah o x y) (hb1 : 2 * m + 1 ≤ b) (hb2 : b ≤ 2 * m + 2) (hbn : b < n) : Fi o l n m (b + 1) b := by
  refine ⟨.inr ⟨by omega, hbn, by omega, fun x' z hx' hz => ?_⟩, fun i x' y' a c d e e2 => ?_⟩
  · rw [hx] at hx'
    cases hx'
    rcases h.1 with rfl | ⟨-, -, -, h1⟩
    · rw [hy] at hz
      cases hz
      exact hn
    · exact ak_trans hn (h1 y z hy hz)
  · rw [hx] at e2
    cases e2
    by_cases e3 : i = b
    · subst e3
      rw [hx] at e
      cases e
      exact ak_irrefl _ _
    · intro h9
      exact h.2 i x' y a (by omega) d e hy (ak_trans h9 hn)
theorem Hdn.end {o : Int} {l : List Nx} {k n : Nat} (h : Hdn o l k n) (hc : ∀ i x y, 0 < i → i < n → (i - 1) / 2 = k → l[i]? = some x → l[k]? = some y → ¬ ah o x y) : Hn o l n := by
  intro i x z h0 hi hx hz
  by_cases e : (i - 1) / 2 = k
  · exact hc i x z h0 hi e hx (by rw [← e]; exact hz)
  · exact h.1 i x z h0 hi e hx hz
theorem Fi.fin {o : Int} {l : List Nx} {n m b f : Nat} (h : Fi o l n m b f) (hb : 2 * m + 3 ≤ b ∨ n ≤ b) : ∀ i x y, 0 < i → i < n → (i - 1) / 2 = m → l[i]? = some x → l[f]? = some y → ¬ ah o x y :=
  fun i x y a c d e e2 => h.2 i x y (by omega) (by omega) c e e2
def SiRet (w : World) (B g : Nat) (o : Int) (v : Sl) (l : List Nx) (M k : Nat) (e : Ending) (w' : World) : Prop :=
  e = .returned (.tuple #[]) ∧ ∃ l', Qo w' B g o v l' M ∧ l'.Perm l ∧ (Hdn o l k l.length → Hn o l' l.length) ∧ Efq w w' B g v v
def Si (w : World) (B g : Nat) (o : Int) (v : Sl) (l : List Nx) (M k m : Nat) (l' : List Nx) (W : World) : Prop :=
  Qo W B g o v l' M ∧ l'.Perm l ∧ (Hdn o l k l.length → Hdn o l' m l.length) ∧ Efq w W B g v v ∧ m ≤ l.length
theorem Si.step {w W W' : World} {B g : Nat} {o : Int} {v : Sl} {l l' : List Nx} {M k m : Nat} (h : Si w B g o v l M k m l' W) (hb : Below W.heap.size W W') : Si w B g o v l M k m l' W' :=
  ⟨h.1.step hb, h.2.1, h.2.2.1, h.2.2.2.1.step hb (Nat.le_trans h.1.2.1 (Nat.le_of_lt h.1.1.lt)), h.2.2.2.2⟩
set_option maxHeartbeats 16000000 in
theorem qsink_c {w : World} {B g k M : Nat} {o : Int} {v : Sl} {l : List Nx} (hq : Qo w B g o v l M) (hk : k ≤ l.length) (hL : l.length ≤ 2000000000000) (h1 : 1 ≤ M) (hM : M ≤ 1000000) :
    Calls Tryz.prog 30 #[.pointer (some ⟨g, 0, none⟩), .int .i64 (k : Int)] w (SiRet w B g o v l M k) := by
  have S0 := hide (show Si w B g o v l M k k l w from ⟨hq, List.Perm.refl _, fun a => a, Efq.refl _ _ _ _, hk⟩)
  have KL := hide hk
  obtain ⟨VA, vn, vc⟩ := v
  have VN := hide (lr_nQ hq.rd).1
  clear hq hk
  go_enter Tryz.func30, Tryz.ntmps30
  go_wp2_with fail
  go_loopw [1] (fun av wr => ∃ (m : Nat) (l1 : List Nx), av = .int .i64 (m : Int) ∧ Hid (Si w B g o (VA, vn, vc) l M k m l1 wr)) (fun av _ => l.length - (intOf av).toNat)
  case atStart => exact ⟨k, l, rfl, S0⟩
  case round =>
    obtain ⟨m, l1, rfl, SI⟩ := hrel
    have hm : m ≤ l.length := SI.out.2.2.2.2
    obtain ⟨m2, hm2⟩ : ∃ m2, m2 = 2 * m := ⟨_, rfl⟩
    have e1 : IntKind.i64.wrap (2 * (m : Int)) = (m2 : Int) := by rw [IntWalk.i64_in _ (by omega)]; omega
    obtain ⟨b0, hb0⟩ : ∃ b0, b0 = m2 + 1 := ⟨_, rfl⟩
    obtain ⟨b9, hb9⟩ : ∃ b9, b9 = m2 + 2 := ⟨_, rfl⟩
    have e2 : IntKind.i64.wrap ((m2 : Int) + 1) = (b0 : Int) := by rw [IntWalk.i64_in _ (by omega)]; omega
    have e3 : IntKind.i64.wrap ((m2 : Int) + 2) = (b9 : Int) := by rw [IntWalk.i64_in _ (by omega)]; omega
    have M2 := hide (show m2 = 2 * m ∧ b0 = m2 + 1 ∧ b9 = m2 + 2 from ⟨hm2, hb0, hb9⟩)
    clear hm2 hb0 hb9
    go_wp2_with fail
    obtain ⟨wo, hwo⟩ : ∃ wo, wo = wr := ⟨_, rfl⟩
    subst hwo
    go_loopw [4, 5] (fun fv bv wr => ∃ (f b : Nat), fv = .int .i64 (f : Int) ∧ bv = .int .i64 (b : Int) ∧ Hid (Below wo.heap.size wo wr) ∧ Hid (Fi o l1 l.length m b f) ∧ b0 ≤ b ∧ b ≤ b9 + 1 ∧ f ≤ l.length) (fun _ bv _ => b9 + 1 - (intOf bv).toNat)
    case atStart => exact ⟨m, b0, rfl, rfl, hide (Below.refl _ _), hide (by rw [M2.out.2.1, M2.out.1]; exact Fi.start _ _ _ _), by omega, by have := M2.out; omega, hm⟩
    case round =>
      obtain ⟨f, b, rfl, rfl, BL, FI, hb1, hb2, hf⟩ := hrel
      have q1 := (SI.out.1.step BL.out).1.c
      change _ = some (Value.slice VA vn vc) at q1
      have LL := hide SI.out.2.1.length_eq
      have VL := hide (show vn = l1.length from (lr_nQ (SI.out.1.rd)).1)
      by_cases hgo : b ≤ b9 ∧ b < vn
      · obtain ⟨c1, c2⟩ := hgo
        have t1 : decide ((b : Int) ≤ (b9 : Int)) = true := decide_eq_true (by omega)
        have t2 : decide ((b : Int) < (vn : Int)) = true := decide_eq_true (by omega)
        have t3 : decide (b ≤ b9) = true := decide_eq_true (by omega)
        have t4 : decide (b < vn) = true := decide_eq_true (by omega)
        have e4 : IntKind.i64.wrap ((b : Int) + 1) = ((b + 1 : Nat) : Int) := by rw [IntWalk.i64_in _ (by have := M2.out; omega)]; omega
        have hfl : f < l1.length := by
          rcases FI.out.1 with h | ⟨_, h, _⟩
          · have := VL.out; have := M2.out; omega
          · have := LL.out; omega
        obtain ⟨x, hx⟩ := len_of (d := l1) (k := b) (by have := VL.out; omega)
        obtain ⟨y, hy⟩ := len_of (d := l1) (k := f) hfl
        have HX := hide hx
        have HY := hide hy
        clear hx hy hfl
        go_wp2_with fail
        refine (qahead_c (i := b) (j := f) (SI.out.1.step BL.out) HX.out HY.out h1 hM).mono ?_
        rintro e w2 ⟨⟨t, rfl, ht⟩, bx⟩
        have HT := hide ht
        replace BL := hide (Below.step1 BL.out bx)
        clear ht bx q1
        cases t with
        | false =>
          go_wp2_with fail
          exact ⟨⟨f, b + 1, rfl, (by first | rfl | go_num), BL, hide (FI.out.skip HX.out HY.out (fun h => by have := HT.out.2 h; cases this)), by omega, by omega, hf⟩, by simp [intOf]; omega⟩
        | true =>
          go_wp2_with fail
          exact ⟨⟨b, b + 1, rfl, (by first | rfl | go_num), BL, hide (FI.out.take HX.out HY.out (HT.out.1 (by trivial)) (by have := M2.out; omega) (by have := M2.out; omega) (by have := VL.out; have := LL.out; omega)), by omega, by omega, by have := VL.out; have := LL.out; omega⟩, by simp [intOf]; omega⟩
      · have FN := hide (FI.out.fin (by have := M2.out; have := VL.out; have := LL.out; omega))
        by_cases hfm : f = m
        · have t9 : ((f : Int) == (m : Int)) = true := by simp [hfm]
          have FM := hide hfm
          clear hfm
          by_cases c : b ≤ b9
          · have t1 : decide ((b : Int) ≤ (b9 : Int)) = true := decide_eq_true (by omega)
            have t2 : decide ((b : Int) < (vn : Int)) = false := decide_eq_false (by omega)
            have t3 : decide (b ≤ b9) = true := decide_eq_true c
            have t4 : decide (b < vn) = false := decide_eq_false (by omega)
            clear c hgo
            go_wp2_with fail
            go_end0
            exact ⟨rfl, l1, SI.out.1.step BL.out, SI.out.2.1, fun h => (SI.out.2.2.1 h).end (by have := FN.out; rwa [FM.out] at this), SI.out.2.2.2.1.step BL.out (Nat.le_trans SI.out.1.2.1 (Nat.le_of_lt SI.out.1.1.lt))⟩
          · have t1 : decide ((b : Int) ≤ (b9 : Int)) = false := decide_eq_false (by omega)
            have t3 : decide (b ≤ b9) = false := decide_eq_false c
            clear c hgo
            go_wp2_with fail
            go_end0
            exact ⟨rfl, l1, SI.out.1.step BL.out, SI.out.2.1, fun h => (SI.out.2.2.1 h).end (by have := FN.out; rwa [FM.out] at this), SI.out.2.2.2.1.step BL.out (Nat.le_trans SI.out.1.2.1 (Nat.le_of_lt SI.out.1.1.lt))⟩
        · have t9 : ((f : Int) == (m : Int)) = false := by simp; omega
          have FC := hide (show 0 < f ∧ f < l.length ∧ (f - 1) / 2 = m ∧ ∀ x y, l1[f]? = some x → l1[m]? = some y → ah o x y from FI.out.1.resolve_left hfm)
          have FM := hide hfm
          clear hfm
          obtain ⟨y, hy⟩ := len_of (d := l1) (k := m) (by have := FC.out; have := LL.out; omega)
          obtain ⟨x, hx⟩ := len_of (d := l1) (k := f) (by have := FC.out; have := LL.out; omega)
          have HX := hide hx
          have HY := hide hy
          clear hx hy
          by_cases c : b ≤ b9
          · have t1 : decide ((b : Int) ≤ (b9 : Int)) = true := decide_eq_true (by omega)
            have t2 : decide ((b : Int) < (vn : Int)) = false := decide_eq_false (by omega)
            have t3 : decide (b ≤ b9) = true := decide_eq_true c
            have t4 : decide (b < vn) = false := decide_eq_false (by omega)
            clear c hgo
            go_wp2_with fail
            refine (qswap_c (i := m) (j := f) (SI.out.1.step BL.out) HY.out HX.out (by have := FM.out; omega)).mono ?_
            rintro e w3 ⟨rfl, q3, ef⟩
            have SJ := hide (show Si w B g o (VA, vn, vc) l M k f (swp l1 m f y x) w3 from ⟨q3, (swp_perm HY.out HX.out (by have := FM.out; omega)).trans SI.out.2.1, fun a => (SI.out.2.2.1 a).swap FC.out.1 FC.out.2.1 (by have := LL.out; omega) FC.out.2.2.1 HY.out HX.out (FC.out.2.2.2 x y HX.out HY.out) (fun i z a1 a2 a3 a4 => FN.out i z x a1 a2 a3 a4 HX.out), (SI.out.step BL.out).2.2.2.1.trans ef, Nat.le_of_lt FC.out.2.1⟩)
            clear q3 ef
            go_wp2_with fail
            exact ⟨⟨f, swp l1 m f y x, rfl, SJ⟩, by have := FC.out; simp [intOf]; omega⟩
          · have t1 : decide ((b : Int) ≤ (b9 : Int)) = false := decide_eq_false (by omega)
            have t3 : decide (b ≤ b9) = false := decide_eq_false c
            clear c hgo
            go_wp2_with fail
            refine (qswap_c (i := m) (j := f) (SI.out.1.step BL.out) HY.out HX.out (by have := FM.out; omega)).mono ?_
            rintro e w3 ⟨rfl, q3, ef⟩
            have SJ := hide (show Si w B g o (VA, vn, vc) l M k f (swp l1 m f y x) w3 from ⟨q3, (swp_perm HY.out HX.out (by have := FM.out; omega)).trans SI.out.2.1, fun a => (SI.out.2.2.1 a).swap FC.out.1 FC.out.2.1 (by have := LL.out; omega) FC.out.2.2.1 HY.out HX.out (FC.out.2.2.2 x y HX.out HY.out) (fun i z a1 a2 a3 a4 => FN.out i z x a1 a2 a3 a4 HX.out), (SI.out.step BL.out).2.2.2.1.trans ef, Nat.le_of_lt FC.out.2.1⟩)
            clear q3 ef
            go_wp2_with fail
            exact ⟨⟨f, swp l1 m f y x, rfl, SJ⟩, by have := FC.out; simp [intOf]; omega⟩
end Go.Proofs.YtpfeacdhplbblaaGreat
