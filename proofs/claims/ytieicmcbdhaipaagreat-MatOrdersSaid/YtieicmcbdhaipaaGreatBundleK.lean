/-
  Shared texts, one behind the other: Mat11, Mat12, Mat13, Mat14, Spu, Spn, Mlens.
-/
import Derived.Test.YtieicmcbdhaipaaGreatBundleJ
import Derived.Test.YtieicmcbdhaipaaGreatBundleI
import Derived.Test.YtieicmcbdhaipaaGreatBundleH
import Derived.Test.YtieicmcbdhaipaaGreatVec9

/-
  mat.Product.
-/

namespace Go.Proofs.YtieicmcbdhaipaaGreat
open Go.RowKit Go.Proofs.YtieicmcbdhaipaaGreat.Num
set_option linter.unusedVariables false
set_option linter.unusedSimpArgs false
set_option maxRecDepth 100000

def Sgp (R : Vx → Vx → Prop) (W : World) (B : Nat) (P k : Nat) (m cur : List Vx) : Prop := cur.length = m.length ∧ ∀ (j : Nat) x y, j < k → m[j]? = some x → cur[j]? = some y → R x y ∧ Tg W B (sv y.a) y.d P
theorem Sgp.step {R : Vx → Vx → Prop} {W W' : World} {B P k : Nat} {m cur : List Vx} (h : Sgp R W B P k m cur) (hb : Below W.heap.size W W') : Sgp R W' B P k m cur := ⟨h.1, fun j x y hj hx hy => ⟨(h.2 j x y hj hx hy).1, (h.2 j x y hj hx hy).2.step hb⟩⟩
theorem Sgp.put {R : Vx → Vx → Prop} {W W' : World} {B P k : Nat} {m cur : List Vx} {x z : Vx} {B' : Nat} {u : Value} {f : List Vx} (h : Sgp R W B P k m cur) (hx : m[k]? = some x) (hz : R x z) (tz : Tg W B (sv z.a) z.d P) (ho : Ow 47 em 1 W B' u f) (hg : W.grownBy W' u.ownBlock) : Sgp R W' B P (k + 1) m (cur.set k z) := by
  have hk := (List.getElem?_eq_some_iff.1 hx).1
  refine ⟨by rw [List.length_set]; exact h.1, fun j a b hj ha hb => ?_⟩
  by_cases e : j = k
  · subst e
    rw [List.getElem?_set_self (by rw [h.1]; exact hk)] at hb
    rw [hx] at ha
    injection ha with ha
    injection hb with hb
    subst ha hb
    exact ⟨hz, tz.keptM ho hg⟩
  · rw [List.getElem?_set_ne (fun h => e h.symm)] at hb
    have h1 := h.2 j a b (by omega) ha hb
    exact ⟨h1.1, h1.2.keptM ho hg⟩
/-- A row of a product. -/
def PrOk (b : List Vx) (N : Nat) (x y : Vx) : Prop := Fm (tms y.d) ∧ (∀ c, 0 ≤ c → gsum (tms y.d) c = dt (tms x.d) (fun i => gsum (rwA b i) c)) ∧ y.d.length ≤ x.d.length * N

set_option maxHeartbeats 8000000 in
theorem product_m {w : World} {v u : Value} {m b : List Vx} {L K N1 N P Q : Nat} (hv : Mv w v m L) (hu : Mv w u b K) (hN1 : ∀ x ∈ m, x.d.length ≤ N1) (hN : ∀ x ∈ b, x.d.length ≤ N) (hP : ∀ q, q ≤ N → q * (L + K + 1) + 1 ≤ P) (hPP : P ≤ 1000000) (ho : N1 * N ≤ 100000) (hNN : N ≤ 100000) (h1 : 1 ≤ L) (hL : L ≤ 500000) (h2 : 1 ≤ K) (hK : K ≤ 500000) (hNN1 : N1 ≤ 100000) (hm : m.length ≤ 1000) (hQ : N1 * N * (P + 1) + 1 ≤ Q) :
    Calls Tryz.prog 72 #[v, u] w fun e w' => ∃ v' m', e = .returned v' ∧ Ow 47 em 1 w' w.heap.size v' m' ∧ Sgp (PrOk b N) w' w.heap.size Q m.length m m' ∧ Below w.heap.size w w' := by
  obtain ⟨A, c, e1, hc1, hc2, hc3⟩ := id hv.1
  obtain ⟨A2, n2, c2, rfl⟩ := rv_sl hu.1
  obtain ⟨q, hlen⟩ : ∃ q, q = m.length := ⟨_, rfl⟩
  rw [← hlen] at e1 hc1 hm ⊢
  subst e1
  have HV := hide hv
  have HU := hide hu
  have HN := hide hlen
  have SUM := hide (show ∀ (W : World) (x : Vx), x ∈ m → Tv W (sv x.a) x.d L → Mv W (.slice A2 n2 c2) b K → Calls Tryz.prog 127 #[sv x.a, .slice A2 n2 c2] W (VRet W (fun c => dt (tms x.d) (fun i => gsum (rwA b i) c)) (x.d.length * N) Q) from fun W x hx h k => by
    have hl := hN1 x hx
    have hq := Nat.mul_le_mul_right N hl
    have hq2 := Nat.mul_le_mul_right (P + 1) hq
    refine (sum_m h k hN hP hPP (by omega) hNN h1 hL h2 hK (by omega)).mono ?_
    rintro e w' ⟨v', d', rfl, t, f, g, n, b⟩
    exact ⟨v', d', rfl, t.more (by omega), f, g, n, b⟩)
  unfold maxLen at hc2
  have hmk := make_row q (by omega) w
  have O1 := hide (made1 w w.heap.size q (Nat.le_refl _) (by omega))
  have BA := hide (alloc_below w (.cells (madeCells #[.slice none 0 0] (q * 1)) 47))
  have S1 := hide (show Sgp (PrOk b N) (w.alloc (.cells (madeCells #[.slice none 0 0] (q * 1)) 47)) w.heap.size Q 0 m (List.replicate q zvx) from ⟨by simp [HN.out], fun j x y h => by omega⟩)
  generalize madeCells #[.slice none 0 0] (q * 1) = Z at *
  have hpx : q ≤ 9223372036854775807 := by omega
  have hpz : (0 : Int) ≤ (q : Int) := by omega
  clear hv hu hc3 hlen hN1 hN h1 hL h2 hK hP hPP ho hNN hNN1 hQ
  go_enter Tryz.func72, Tryz.ntmps72
  go_wp2_with fail
  clear hmk
  generalize (w.alloc (.cells Z 47)) = w2 at *
  go_loopw [13] (fun iv wr => ∃ (k : Nat) (cur : List Vx), k ≤ q ∧ iv = .int .i64 (k : Int) ∧ Hid (Below w.heap.size w wr) ∧ Hid (Ow 47 em 1 wr w.heap.size (.slice (some ⟨w.heap.size, 0, none⟩) q q) cur) ∧ Hid (Sgp (PrOk b N) wr w.heap.size Q k m cur)) (fun iv _ => q - (intOf iv).toNat)
  case atStart => exact ⟨0, _, Nat.zero_le _, rfl, BA, O1, S1⟩
  case round =>
    obtain ⟨k, cur, hk, rfl, B, O, S⟩ := hrel
    by_cases hlt : k < q
    · obtain ⟨x, hx⟩ := len_of (d := m) (k := k) (by rw [← HN.out]; exact hlt)
      have HX := hide hx
      have hmx := List.mem_of_getElem? hx
      have XM := hide hmx
      have RX := hide ((HV.out.2 x hmx).step B.out)
      have UX := hide (HU.out.step B.out)
      obtain ⟨b1, off, rfl, hb, hcs⟩ := (HV.out.1.step B.out).get hx
      have c0 := hcs 0 _ rfl
      rw [Nat.add_zero, Nat.mul_one] at c0
      have l0 : (0 : Int) ≤ (k : Int) := by omega
      have l1 : (k : Int) < (q : Int) := by omega
      clear hcs hb hx hmx
      go_wp2_with fail
      refine (SUM.out _ x XM.out RX.out UX.out).mono ?_
      rintro e w5 ⟨v1, d1, rfl, t1, f1, g1, n1, bx⟩
      obtain ⟨A9, m9, c9, rfl⟩ := rv_sl t1.tv.1
      have T5 := hide (t1.mono (B' := w.heap.size) B.out.size)
      have RO := hide (show PrOk b N x ⟨(A9, m9, c9), d1⟩ from ⟨f1, g1, n1⟩)
      have B5 := hide (Below.step B.out B.out.size bx)
      have O5 := hide (O.out.step bx)
      have S5 := hide (S.out.step bx)
      clear t1 f1 g1 n1 bx B O S c0 RX UX
      obtain ⟨y, hy⟩ := len_of (d := cur) (k := k) (by rw [S5.out.1, ← HN.out]; exact hlt)
      obtain ⟨e0, f0⟩ := O5.out.cellsM hy
      have hg : w5.grownBy (w5.setCell ⟨w.heap.size, k, none⟩ (.slice A9 m9 c9)) (some w.heap.size) := only_set (p := ⟨w.heap.size, k, none⟩) (only_refl w5 _) rfl _
      have O6 := hide (O5.out.putM (i := k) (by rw [S5.out.1, ← HN.out]; exact hlt) ⟨(A9, m9, c9), d1⟩)
      have S6 := hide (S5.out.put HX.out RO.out T5.out O5.out hg)
      have B6 := hide (show Below w.heap.size w _ from (B5.out.grown hg B5.out.size (fun g e => by injection e with e; subst e; exact (O5.out.lt rfl).1)))
      clear hy hg O5 S5 T5 B5
      go_wp2_with fail
      exact ⟨⟨k + 1, _, by omega, by go_num, B6, O6, S6⟩, by simp [intOf]; omega⟩
    · obtain rfl : k = q := by omega
      go_wp2_with fail
      go_ret
      exact ⟨_, cur, rfl, O.out, S.out, B.out⟩
end Go.Proofs.YtieicmcbdhaipaaGreat

/-
  The document's Product.
-/

namespace Go.Proofs.YtieicmcbdhaipaaGreat
open Go.RowKit Go.Proofs.YtieicmcbdhaipaaGreat.Num
set_option linter.unusedVariables false
set_option linter.unusedSimpArgs false
set_option maxRecDepth 100000

/-- Rows of the call's own. -/
def Mg (W : World) (B : Nat) (v : Value) (m : List Vx) (P : Nat) : Prop := Ow 47 em 1 W B v m ∧ ∀ x ∈ m, Tg W B (sv x.a) x.d P
theorem Mg.step {W W' : World} {B P : Nat} {v : Value} {m : List Vx} (h : Mg W B v m P) (hb : Below W.heap.size W W') : Mg W' B v m P := ⟨h.1.step hb, fun x hx => (h.2 x hx).step hb⟩
theorem Mg.mono {W : World} {B B' P : Nat} {v : Value} {m : List Vx} (h : Mg W B v m P) (hB : B' ≤ B) : Mg W B' v m P := ⟨h.1.mono hB, fun x hx => (h.2 x hx).mono hB⟩
theorem Mg.mc {W : World} {B P : Nat} {v : Value} {m : List Vx} (h : Mg W B v m P) : Mc W v m P := ⟨h.1.rl em_len, fun x hx => (h.2 x hx).tc⟩
theorem Mc.mv' {W : World} {P : Nat} {v : Value} {m : List Vx} (h : Mc W v m P) : Mv W v m P := ⟨h.1, fun x hx => (h.2 x hx).tv⟩
theorem Mg.push {W W' : World} {B P : Nat} {v v' : Value} {m : List Vx} {x : Vx} (T : Mg W B v m P) (ho : Ow 47 em 1 W' B v' (m ++ [x])) (hg : W.grownBy W' v.ownBlock) (hx : Tg W B (sv x.a) x.d P) : Mg W' B v' (m ++ [x]) P := by
  refine ⟨ho, fun y hy => ?_⟩
  rcases List.mem_append.1 hy with h | h
  · exact (T.2 y h).keptM T.1 hg
  · simp at h
    subst h
    exact hx.keptM T.1 hg
theorem Sgp.mg {R : Vx → Vx → Prop} {W : World} {B P : Nat} {m cur : List Vx} {v : Value} (h : Sgp R W B P m.length m cur) (ho : Ow 47 em 1 W B v cur) : Mg W B v cur P :=
  ⟨ho, fun y hy => by
    obtain ⟨j, hj⟩ := List.getElem?_of_mem hy
    have hlt := (List.getElem?_eq_some_iff.1 hj).1
    obtain ⟨x, hx⟩ := len_of (d := m) (k := j) (by rw [← h.1]; exact hlt)
    exact (h.2 j x y (by rw [← h.1]; exact hlt) hx hj).2⟩
theorem Sgp.rel {R : Vx → Vx → Prop} {W : World} {B P : Nat} {m cur : List Vx} (h : Sgp R W B P m.length m cur) {j : Nat} {x y : Vx} (hx : m[j]? = some x) (hy : cur[j]? = some y) : R x y := (h.2 j x y (List.getElem?_eq_some_iff.1 hx).1 hx hy).1
/-- A row of a product, with a bound of its length. -/
def PrQ (b : List Vx) (N : Nat) (x y : Vx) : Prop := Fm (tms y.d) ∧ (∀ c, 0 ≤ c → gsum (tms y.d) c = dt (tms x.d) (fun i => gsum (rwA b i) c)) ∧ y.d.length ≤ N
theorem get_snoc {α : Type} {R : Nat → α → Prop} {os : List α} {z : α} {k : Nat} (hl : os.length = k) (h : ∀ (j : Nat) x, os[j]? = some x → R j x) (hz : R k z) : ∀ (j : Nat) x, (os ++ [z])[j]? = some x → R j x := by
  intro j x hx
  by_cases hj : j < os.length
  · rw [List.getElem?_append_left hj] at hx
    exact h j x hx
  · rw [List.getElem?_append_right (by omega)] at hx
    have hj0 : j - os.length = 0 := by
      have := (List.getElem?_eq_some_iff.1 hx).1
      simp at this
      omega
    rw [hj0] at hx
    simp at hx
    subst hx
    rw [show j = k by omega]
    exact hz

set_option maxHeartbeats 16000000 in
theorem rproduct_m {w : World} {v u : Value} {m b : List Vx} {L K N N1 M R : Nat} (hv : Mv w v m L) (hu : Mv w u b K) (hN1 : ∀ x ∈ m, x.d.length ≤ N1) (hN : ∀ x ∈ b, x.d.length ≤ N) (hNN : N1 ≤ 1000) (h1 : 1 ≤ L) (hL : L ≤ 1000) (h2 : 1 ≤ K) (hK : K ≤ 1000) (hm : m.length ≤ 1000) (hb : b.length ≤ 1000) (hbn : b.length * N + N ≤ 1000)
    (hR : N1 * (L + 1) + 1 ≤ R) (hRR : R ≤ 1000) (hSZ : ∀ x ∈ m, ∀ k, k ≤ b.length → ∀ c, Sz Q (sm k (fun i => gsum (tms x.d) (i : Int) * gsum (rwA b (i : Int)) c)) M) (hKM : K ≤ M) (hMM : M ≤ 10000) :
    Calls Tryz.prog 70 #[v, u] w fun e w' => ∃ v' m', e = .returned v' ∧ Mg w' w.heap.size v' m' M ∧ m'.length = m.length ∧ (∀ (j : Nat) y, m'[j]? = some y → ∀ x, m[j]? = some x → PrQ b (b.length * N) x y) ∧ Below w.heap.size w w' := by
  obtain ⟨i0, hi, hz0, hz1, hz2⟩ := info_parts info_rt
  obtain ⟨j0, gi, gz0, gz1, gz2⟩ := info_parts info_row
  obtain ⟨A, c, e1, hc1, hc2, hc3⟩ := id hv.1
  obtain ⟨n, hlen⟩ : ∃ n, n = m.length := ⟨_, rfl⟩
  obtain ⟨D, q, e2, hd1, hd2, hd3⟩ := id hu.1
  obtain ⟨p, hplen⟩ : ∃ p, p = b.length := ⟨_, rfl⟩
  rw [← hlen] at e1 hc1 hm ⊢
  rw [← hplen] at e2 hd1 hb hbn hSZ ⊢
  subst e1 e2
  have b0 := alloc_below w (.cells #[] 47)
  have GG := hide (show ∀ (x : Vx) W (j : Nat), x ∈ m → Below w.heap.size w W → Calls Tryz.prog 45 #[sv x.a, .int .i64 (j : Int)] W (RxRet W (gsum (tms x.d) (j : Int)) 100000000) from fun x W j hx hb => by
    have hxn := hN1 x hx
    have h := vget_f (col := (j : Int)) ((hv.2 x hx).step hb) (by omega) h1 (by omega)
    rw [gt, if_pos (Int.natCast_nonneg j)] at h
    refine h.mono fun e w' ⟨y, k1, k2, k3, k4⟩ => ⟨y, k1, k2, k3.more ?_, k4⟩
    have := Nat.mul_le_mul (Nat.le_trans hxn hNN) (show 5 * L + 1 ≤ 5001 by omega)
    omega)
  have RZ := hide (show ∀ x ∈ m, ∀ c, Sz Q (gsum (tms x.d) c) R from fun x hx c => by
    refine (sz_gsum (B := Q) Q_two c (tsz (hv.2 x hx) h1)).more Q_pos ?_
    rw [tms_len]
    have := Nat.mul_le_mul_right (L + 1) (hN1 x hx)
    omega)
  have HV := hide hv
  have HU := hide hu
  have HN := hide hlen
  have HP := hide hplen
  have NN := hide hN
  have PB := hide (And.intro h2 (And.intro hK (And.intro hb hbn)))
  have RB := hide (And.intro hRR (show 1 ≤ R by omega))
  have MB := hide (And.intro hKM (And.intro (show 1 ≤ M by omega) hMM))
  have SZ := hide hSZ
  have T0 := hide (show Mg (w.alloc (.cells #[] 47)) w.heap.size (.slice (some ⟨w.heap.size, 0, none⟩) 0 0) [] M from ⟨Ow.lit (B := w.heap.size) em_len w 47 ([] : List Vx) #[] rfl (Nat.le_refl _) (by simp [maxLen]), fun x hx => by cases hx⟩)
  have B0 := hide b0
  unfold maxLen at hc2 hd2
  clear hv hu hc3 hd3 hlen hplen hN1 hN h1 hL h2 hK hbn hSZ hKM hMM hR hRR b0
  go_enter Tryz.func70, Tryz.ntmps70
  go_wp2_with fail
  go_loopw [5, 6] (fun ov iv wr => ∃ (k : Nat) (os : List Vx), k ≤ n ∧ iv = .int .i64 (k : Int) ∧ Hid (os.length = k) ∧ Hid (∀ (j : Nat) y, os[j]? = some y → ∀ x, m[j]? = some x → PrQ b (p * N) x y) ∧ Hid (Below w.heap.size w wr) ∧ Hid (Mg wr w.heap.size ov os M)) (fun _ iv _ => n - (intOf iv).toNat)
  case atStart => exact ⟨0, [], Nat.zero_le _, rfl, hide rfl, hide (fun j x h => by simp at h), B0, T0⟩
  case round =>
    obtain ⟨k, os, hk, rfl, KL, V, B, T⟩ := hrel
    by_cases hlt : k < n
    · obtain ⟨x, hx⟩ := len_of (d := m) (k := k) (by rw [← HN.out]; exact hlt)
      have hxm := List.mem_of_getElem? hx
      have GX := hide (GG.out x)
      have RX := hide (RZ.out x hxm)
      have SX := hide (SZ.out x hxm)
      have XM := hide hxm
      have HX := hide hx
      have HLEN := hide (show os.length + 1 ≤ 1000000000000 by have := KL.out; omega)
      have l0 : (0 : Int) ≤ (k : Int) := by omega
      have l1 : (k : Int) < (n : Int) := by omega
      have HC := hide (show ∀ W, Below w.heap.size w W → ∃ b1 off, A = some ⟨b1, off, none⟩ ∧ W.cell? ⟨b1, off + k, none⟩ = some (sv x.a) from fun W h => by
        obtain ⟨b1, off, e, hb, hcs⟩ := (HV.out.1.step h).get hx
        have c0 := hcs 0 _ rfl
        rw [Nat.add_zero, Nat.mul_one] at c0
        exact ⟨b1, off, e, c0⟩)
      obtain ⟨b1, off, rfl, -⟩ := HC.out wr B.out
      have b8 := alloc_below wr (.cells #[] 26)
      have Z0 := hide b8
      have Y0 := hide (show Fg (wr.alloc (.cells #[] 26)) wr.heap.size (.slice (some ⟨wr.heap.size, 0, none⟩) 0 0) [] R from ⟨Ow.lit (B := wr.heap.size) er_len wr 26 ([] : List Rx) #[] rfl (Nat.le_refl _) (by simp [maxLen]), fun x hx => by cases hx⟩)
      clear hx hxm b8
      go_wp2_with fail
      obtain ⟨wo, hwo⟩ : ∃ wo, wo = wr := ⟨_, rfl⟩
      subst hwo
      go_loopw [7, 8] (fun yv cv wr => ∃ (j : Nat) (ys : List Rx), j ≤ p ∧ cv = .int .i64 (j : Int) ∧ Hid (ys.length = j) ∧ Hid (∀ (i : Nat) y, ys[i]? = some y → y.r = gsum (tms x.d) (i : Int)) ∧ Hid (Below wo.heap.size wo wr) ∧ Hid (Fg wr wo.heap.size yv ys R)) (fun _ cv _ => p - (intOf cv).toNat)
      case atStart => exact ⟨0, [], Nat.zero_le _, rfl, hide rfl, hide (fun i y h => by simp at h), Z0, Y0⟩
      case round =>
        obtain ⟨j, ys, hj, rfl, YL, YV, Z, Y⟩ := hrel
        have B5 := hide (Below.step B.out B.out.size Z.out)
        by_cases hjt : j < p
        · obtain ⟨b1', off', e9, c0⟩ := HC.out wr B5.out
          injection e9 with e9
          injection e9 with e91 e92
          subst e91 e92
          have GC := hide (GX.out wr j XM.out B5.out)
          have YLEN := hide (show ys.length + 1 ≤ 1000000000000 by have := YL.out; omega)
          have m0 : (0 : Int) ≤ (j : Int) := by omega
          have m1 : (j : Int) < (p : Int) := by omega
          go_wp2_with fail
          refine GC.out.mono ?_
          rintro e w3 ⟨y, rfl, hy, ry, bx⟩
          have Y3 := hide (Y.out.step bx)
          have Z3 := hide (Below.step Z.out Z.out.size bx)
          have R3 := hide ry
          have H3 := hide hy
          clear hy ry bx Y Z GC c0 B5
          go_wp2_with fail
          refine (rfto_g R3.out (by omega)).mono ?_
          rintro e w4 ⟨z, rfl, hz, rz, bx⟩
          have Y4 := hide (Y3.out.step bx)
          have HZ := hide (show z.r = gsum (tms x.d) (j : Int) from hz.trans H3.out)
          have X4 := hide ((rz.mono (B' := wo.heap.size) Z3.out.size).fit (M := R) (by rw [HZ.out]; exact RX.out _))
          have Z4 := hide (Below.step Z3.out Z3.out.size bx)
          clear hz rz bx Y3 Z3 R3
          go_wp2_with (at_builtin; go_must (refine wpList_pushE rfl (.tmp 23) (.tmp 31) 37 rfl Tryz.underlying37 hi hz0 hz1 hz2 rfl (by omega) er_len er_one w4 wo.heap.size _ ys z _ rfl Y4.out.1 rfl rfl YLEN.out (by decide) Z4.out.size ?_); intro v' w' ho hg; have YF := hide (Y4.out.push ho hg.1 X4.out); have ZF := hide (below_own Z4.out Y4.out.1 hg.1 Z4.out.size); clear ho hg)
          have K2 := hide (show (ys ++ [z]).length = j + 1 by have := YL.out; simp; omega)
          have V2 := hide (get_snoc (R := fun (i : Nat) (y : Rx) => y.r = gsum (tms x.d) (i : Int)) YL.out YV.out HZ.out)
          exact ⟨⟨j + 1, ys ++ [z], by omega, by go_num, K2, V2, ZF, YF⟩, by simp [intOf]; omega⟩
        · obtain rfl : j = p := by omega
          have T2 := hide (T.out.step Z.out)
          have EY := hide (show ∀ i : Nat, i < j → xf ys (i : Int) = gsum (tms x.d) (i : Int) from fun i h => by
            obtain ⟨y, hy⟩ := len_of (d := ys) (k := i) (by rw [YL.out]; exact h)
            rw [xf_in hy]
            exact YV.out i y hy)
          have CT := hide (rtimest_g (M := M) Y.out.fv (HU.out.step B5.out) NN.out PB.out.1 PB.out.2.1 RB.out.2 RB.out.1 (by rw [← HP.out]; exact PB.out.2.2.1) (by rw [YL.out]; exact PB.out.2.2.1) (by rw [← HP.out]; exact PB.out.2.2.2) (fun k hk c => by
            have h := SX.out k (by rw [HP.out]; exact hk) c
            rwa [show tt b ys k c = sm k (fun i => gsum (tms x.d) (i : Int) * gsum (rwA b (i : Int)) c) from sm_congr (fun i hi => by rw [EY.out i (by have := HP.out; omega)])]) MB.out.1 MB.out.2.1 MB.out.2.2)
          obtain ⟨A7, n7, c7, rfl⟩ := rv_sl Y.out.fv.1
          clear T Z
          go_wp2_with fail
          refine CT.out.mono ?_
          rintro e w5 ⟨v5, l5, rfl, t5, f5, g5, n5, bx⟩
          obtain ⟨A5, n5', c5, rfl⟩ := rv_sl t5.tv.1
          have T5 := hide (T2.out.step bx)
          have B6 := hide (Below.step B5.out B5.out.size bx)
          have X5 := hide (t5.mono (B' := w.heap.size) B5.out.size)
          have PQ := hide (show PrQ b (j * N) x ⟨(A5, n5', c5), l5⟩ from ⟨f5, fun c hc => by
            rw [g5 c hc, dt_rows (y := gsum (tms x.d)) (fun _ _ => rfl)]
            exact sm_congr (fun i hi => by rw [EY.out i (by have := HP.out; omega)]), by rw [HP.out]; exact n5⟩)
          clear t5 f5 g5 n5 bx CT T2 B5 Y
          go_wp2_with (at_builtin; go_must (refine wpList_pushE rfl (.tmp 33) (.tmp 37) 72 rfl Tryz.underlying72 gi gz0 gz1 gz2 rfl (by omega) em_len em_one w5 w.heap.size _ os ⟨(A5, n5', c5), l5⟩ _ rfl T5.out.1 rfl rfl HLEN.out (by decide) B6.out.size ?_); intro v' w' ho hg; have TF := hide (T5.out.push ho hg.1 X5.out); have CF := hide (below_own B6.out T5.out.1 hg.1 B6.out.size); clear ho hg)
          have K2 := hide (show (os ++ [(⟨(A5, n5', c5), l5⟩ : Vx)]).length = k + 1 by have := KL.out; simp; omega)
          have V2 := hide (get_snoc (R := fun (i : Nat) (y : Vx) => ∀ x, m[i]? = some x → PrQ b (j * N) x y) KL.out V.out (fun x' hx' => by have h := HX.out; rw [h] at hx'; injection hx' with hx'; subst hx'; exact PQ.out))
          exact ⟨⟨k + 1, os ++ [⟨(A5, n5', c5), l5⟩], by omega, by go_num, K2, V2, CF, TF⟩, by simp [intOf]; omega⟩
    · obtain rfl : k = n := by omega
      go_wp2_with fail
      go_ret
      exact ⟨_, os, rfl, T.out, KL.out, V.out, B.out⟩
end Go.Proofs.YtieicmcbdhaipaaGreat

/-
  The document's greatest place, and its columns; the unit matrix.
-/

namespace Go.Proofs.YtieicmcbdhaipaaGreat
open Go.RowKit Go.Proofs.YtieicmcbdhaipaaGreat.Num
set_option linter.unusedVariables false
set_option linter.unusedSimpArgs false
set_option maxRecDepth 100000

theorem mt_take {m : List Vx} {k : Nat} {x : Vx} (hx : m[k]? = some x) (n : Int) : MtBad (m.take (k + 1)) n ↔ MtBad (m.take k) n ∨ ∃ c : Int, n ≤ c ∧ 0 ≤ c ∧ gsum (tms x.d) c ≠ 0 := by
  unfold MtBad
  rw [take_snoc hx]
  constructor
  · rintro ⟨y, hy, c, h⟩
    rcases List.mem_append.1 hy with hy | hy
    · exact .inl ⟨y, hy, c, h⟩
    · simp at hy
      subst hy
      exact .inr ⟨c, h⟩
  · rintro (⟨y, hy, c, h⟩ | ⟨c, h⟩)
    · exact ⟨y, List.mem_append.2 (.inl hy), c, h⟩
    · exact ⟨x, by simp, c, h⟩
theorem fm_some {ts : List Tm} (h : Fm ts) (n : Int) : (∃ t ∈ ts, n ≤ t.1) ↔ ∃ c : Int, n ≤ c ∧ 0 ≤ c ∧ gsum ts c ≠ 0 := by
  constructor
  · rintro ⟨t, ht, hn⟩
    obtain ⟨h1, h2⟩ := fm_at h ht
    exact ⟨t.1, hn, h2, by rw [h1]; exact (h.2 t ht).2⟩
  · rintro ⟨c, hn, h0, hc⟩
    rcases Classical.em (∃ t ∈ ts, t.1 = c) with ⟨t, ht, e⟩ | hno
    · exact ⟨t, ht, by omega⟩
    · exact absurd (gsum_none (fun t ht e => hno ⟨t, ht, e⟩)) hc
theorem MtBad.of {m f : List Vx} {n : Int} (h : rwA m = rwA f) (hb : MtBad m n) : MtBad f n := by
  obtain ⟨x, hx, c, h1, h2, h3⟩ := hb
  obtain ⟨k, hk⟩ := List.getElem?_of_mem hx
  have e := congrFun h (k : Int)
  rw [rwA_in hk] at e
  rw [e] at h3
  rcases Nat.lt_or_ge k f.length with hlt | hge
  · obtain ⟨y, hy⟩ := len_of (d := f) (k := k) hlt
    rw [rwA_in hy] at h3
    exact ⟨y, List.mem_of_getElem? hy, c, h1, h2, h3⟩
  · rw [rwA_out f (k : Int) (.inr (by omega))] at h3
    exact absurd rfl h3

set_option maxHeartbeats 16000000 in
theorem most_m {w : World} {v : Value} {m : List Vx} {L N : Nat} (hv : Mv w v m L) (hN : ∀ x ∈ m, x.d.length ≤ N) (hNN : N ≤ 1000) (h1 : 1 ≤ L) (hL : L ≤ 1000) (hm : m.length ≤ 1000) :
    Calls Tryz.prog 78 #[v] w fun e w' => ∃ z : Int, e = .returned (.int .i64 z) ∧ (∀ n : Int, 0 ≤ n → (n ≤ z ↔ MtBad m n)) ∧ Below w.heap.size w w' := by
  obtain ⟨A, c, e1, hc1, hc2, hc3⟩ := id hv.1
  obtain ⟨n, hlen⟩ : ∃ n, n = m.length := ⟨_, rfl⟩
  rw [← hlen] at e1 hc1 hm
  subst e1
  have HV := hide hv
  have HN := hide hlen
  have NN := hide hN
  have PB := hide (And.intro h1 (And.intro hL hNN))
  unfold maxLen at hc2
  clear hv hc3 hlen hN h1 hL hNN
  go_enter Tryz.func78, Tryz.ntmps78
  go_wp2_with fail
  go_loopw [3, 4] (fun zv iv wr => ∃ (k : Nat) (z : Int), k ≤ n ∧ zv = .int .i64 z ∧ iv = .int .i64 (k : Int) ∧ Hid (∀ q : Int, 0 ≤ q → (q ≤ z ↔ MtBad (m.take k) q)) ∧ Hid (Below w.heap.size w wr)) (fun _ iv _ => n - (intOf iv).toNat)
  case atStart => exact ⟨0, -1, Nat.zero_le _, rfl, rfl, hide (fun q hq => ⟨fun h => by omega, fun ⟨x, hx, _⟩ => by simp at hx⟩), hide (Below.refl _ _)⟩
  case round =>
    obtain ⟨k, z, hk, rfl, rfl, V, B⟩ := hrel
    by_cases hlt : k < n
    · obtain ⟨x, hx⟩ := len_of (d := m) (k := k) (by rw [← HN.out]; exact hlt)
      have hxm := List.mem_of_getElem? hx
      have TK := hide (mt_take hx)
      have CM := hide (vmake_fl ((HV.out.2 x hxm).step B.out) (Nat.le_trans (NN.out x hxm) PB.out.2.2) PB.out.1 (by have := PB.out.2.1; omega))
      have DN := hide (Nat.le_trans (NN.out x hxm) PB.out.2.2)
      have l0 : (0 : Int) ≤ (k : Int) := by omega
      have l1 : (k : Int) < (n : Int) := by omega
      obtain ⟨b, off, rfl, hb, hcs⟩ := (HV.out.1.step B.out).get hx
      have c0 := hcs 0 _ rfl
      rw [Nat.add_zero, Nat.mul_one] at c0
      clear hx hxm hb hcs
      go_wp2_with fail
      refine CM.out.mono ?_
      rintro e w3 ⟨v3, d3, rfl, t3, f3, g3, n3, bx⟩
      obtain ⟨A3, n3', c3, rfl⟩ := rv_sl t3.tv.1
      have T3 := hide t3.tv.1
      have F3 := hide f3
      have G3 := hide g3
      have H3 := hide (show n3' = d3.length by
        obtain ⟨A', c', e, _⟩ := t3.tv.1
        injection e with e1 e2 e3)
      have hn3 : n3' ≤ 1000 := by rw [H3.out]; exact Nat.le_trans n3 DN.out
      have B3 := hide (Below.step B.out B.out.size bx)
      have V0 := hide (show ∀ q : Int, 0 ≤ q → (q ≤ z ↔ MtBad (m.take k) q ∨ ∃ t ∈ tms (d3.take 0), q ≤ t.1) from fun q hq => by rw [V.out q hq]; simp [tms])
      clear t3 f3 g3 n3 bx CM c0 B V
      go_wp2_with fail
      obtain ⟨wo, hwo⟩ : ∃ wo, wo = w3 := ⟨_, rfl⟩
      subst hwo
      go_loopw [3, 6] (fun zv jv wr => ∃ (j : Nat) (z : Int), j ≤ n3' ∧ zv = .int .i64 z ∧ jv = .int .i64 (j : Int) ∧ Hid (∀ q : Int, 0 ≤ q → (q ≤ z ↔ MtBad (m.take k) q ∨ ∃ t ∈ tms (d3.take j), q ≤ t.1)) ∧ Hid (Below wo.heap.size wo wr)) (fun _ jv _ => n3' - (intOf jv).toNat)
      case atStart => exact ⟨0, z, Nat.zero_le _, rfl, rfl, V0, hide (Below.refl _ _)⟩
      case round =>
        obtain ⟨j, z, hj, rfl, rfl, V, Z⟩ := hrel
        by_cases hjt : j < n3'
        · obtain ⟨t, ht⟩ := len_of (d := d3) (k := j) (by rw [← H3.out]; exact hjt)
          have E4' := hide (E4.of (T3.out.step Z.out) ht)
          have ST := hide (tms_snoc ht)
          obtain ⟨b2, off2, rfl, -⟩ := E4'.out
          obtain ⟨d0, d1, d2, d3'⟩ := E4'.out.cells
          have m0 : (0 : Int) ≤ (j : Int) := by omega
          have m1 : (j : Int) < (n3' : Int) := by omega
          clear ht d1 d2 d3' E4'
          by_cases hg : z < t.c
          · have q1 : decide (z < t.c) = true := decide_eq_true hg
            have V2 := hide (show ∀ q : Int, 0 ≤ q → (q ≤ t.c ↔ MtBad (m.take k) q ∨ ∃ y ∈ tms (d3.take (j + 1)), q ≤ y.1) from fun q hq => by
              rw [ST.out]
              constructor
              · intro h
                exact .inr ⟨tm t, by simp, h⟩
              · rintro (h | ⟨y, hy, h⟩)
                · have := (V.out q hq).2 (.inl h); omega
                · rcases List.mem_append.1 hy with hy | hy
                  · have := (V.out q hq).2 (.inr ⟨y, hy, h⟩); omega
                  · simp at hy; subst hy; exact h)
            clear V hg
            go_wp2_with fail
            exact ⟨⟨j + 1, t.c, by omega, rfl, by go_num, V2, Z⟩, by simp [intOf]; omega⟩
          · have q1 : decide (z < t.c) = false := decide_eq_false hg
            have V2 := hide (show ∀ q : Int, 0 ≤ q → (q ≤ z ↔ MtBad (m.take k) q ∨ ∃ y ∈ tms (d3.take (j + 1)), q ≤ y.1) from fun q hq => by
              rw [ST.out]
              constructor
              · intro h
                rcases (V.out q hq).1 h with h | ⟨y, hy, h⟩
                · exact .inl h
                · exact .inr ⟨y, List.mem_append.2 (.inl hy), h⟩
              · rintro (h | ⟨y, hy, h⟩)
                · exact (V.out q hq).2 (.inl h)
                · rcases List.mem_append.1 hy with hy | hy
                  · exact (V.out q hq).2 (.inr ⟨y, hy, h⟩)
                  · simp at hy
                    subst hy
                    have h : q ≤ t.c := h
                    omega)
            clear V hg
            go_wp2_with fail
            exact ⟨⟨j + 1, z, by omega, rfl, by go_num, V2, Z⟩, by simp [intOf]; omega⟩
        · obtain rfl : j = n3' := by omega
          have B4 := hide (Below.step B3.out B3.out.size Z.out)
          have V2 := hide (show ∀ q : Int, 0 ≤ q → (q ≤ z ↔ MtBad (m.take (k + 1)) q) from fun q hq => by
            have h := V.out q hq
            rw [List.take_of_length_le (l := d3) (by rw [← H3.out]; exact Nat.le_refl _), fm_some F3.out] at h
            rw [h, TK.out]
            constructor
            · rintro (h | ⟨c, h1, h2, h3⟩)
              · exact .inl h
              · exact .inr ⟨c, h1, h2, by rwa [← G3.out c h2]⟩
            · rintro (h | ⟨c, h1, h2, h3⟩)
              · exact .inl h
              · exact .inr ⟨c, h1, h2, by rwa [G3.out c h2]⟩)
          clear V Z
          go_wp2_with fail
          exact ⟨⟨k + 1, z, by omega, rfl, by go_num, V2, B4⟩, by simp [intOf]; omega⟩
    · obtain rfl : k = n := by omega
      have V2 := hide (show ∀ q : Int, 0 ≤ q → (q ≤ z ↔ MtBad m q) from fun q hq => by
        have h := V.out q hq
        rwa [List.take_of_length_le (by rw [← HN.out]; exact Nat.le_refl _)] at h)
      go_wp2_with fail
      go_ret
      exact ⟨z, rfl, V2.out, B.out⟩
end Go.Proofs.YtieicmcbdhaipaaGreat

/-
  The document's columns; the unit matrix.
-/

namespace Go.Proofs.YtieicmcbdhaipaaGreat
open Go.RowKit Go.Proofs.YtieicmcbdhaipaaGreat.Num
set_option linter.unusedVariables false
set_option linter.unusedSimpArgs false
set_option maxRecDepth 100000

theorem col_sz {w : World} {v : Value} {m : List Vx} {L N M : Nat} (hv : Mv w v m L) (hN : ∀ x ∈ m, x.d.length ≤ N) (h1 : 1 ≤ L) (hM : N * (L + 1) + 1 ≤ M) {x : Vx} (hx : x ∈ m) (c : Int) : Sz Q (gsum (tms x.d) c) M := by
  refine (sz_gsum (B := Q) Q_two c (tsz (hv.2 x hx) h1)).more Q_pos ?_
  rw [tms_len]
  have := Nat.mul_le_mul_right (L + 1) (hN x hx)
  omega

/-- The columns up to c. -/
def Cl (m : List Vx) (os : List Vx) : Prop := ∀ (c : Nat) y, os[c]? = some y → Fm (tms y.d) ∧ ∀ i : Int, 0 ≤ i → gsum (tms y.d) i = gsum (rwA m i) (c : Int)

set_option maxHeartbeats 32000000 in
theorem rtranspose_m {w : World} {v : Value} {m : List Vx} {L N M : Nat} {n : Int} (hv : Mv w v m L) (hN : ∀ x ∈ m, x.d.length ≤ N) (hNN : N ≤ 1000) (h1 : 1 ≤ L) (hL : L ≤ 1000) (hm : m.length ≤ 1000) (hM : N * (L + 1) + 1 ≤ M) (hn : 65536 < n ∨ n ≤ 1000) :
    Calls Tryz.prog 68 #[v, .int .i64 n] w fun e w' => Below w.heap.size w w' ∧ ((TrBad m n ∧ ∃ v', e = .returned (.tuple #[v', .int .i64 2]) ∧ Mg w' w.heap.size v' [] M) ∨
      (¬ TrBad m n ∧ ∃ v' m', e = .returned (.tuple #[v', .int .i64 0]) ∧ Mg w' w.heap.size v' m' M ∧ (m'.length : Int) = n ∧ Cl m m')) := by
  obtain ⟨i0, hi, hz0, hz1, hz2⟩ := info_parts info_tm
  obtain ⟨j0, gi, gz0, gz1, gz2⟩ := info_parts info_row
  obtain ⟨A, c, e1, hc1, hc2, hc3⟩ := id hv.1
  obtain ⟨q, hlen⟩ : ∃ q, q = m.length := ⟨_, rfl⟩
  rw [← hlen] at e1 hc1 hm
  subst e1
  have b0 := alloc_below w (.cells #[] 47)
  have GG := hide (show ∀ (x : Vx) W (j : Nat), x ∈ m → Below w.heap.size w W → Calls Tryz.prog 45 #[sv x.a, .int .i64 (j : Int)] W (RxRet W (gsum (tms x.d) (j : Int)) 100000000) from fun x W j hx hb => by
    have hxn := hN x hx
    have h := vget_f (col := (j : Int)) ((hv.2 x hx).step hb) (by omega) h1 (by omega)
    rw [gt, if_pos (Int.natCast_nonneg j)] at h
    refine h.mono fun e w' ⟨y, k1, k2, k3, k4⟩ => ⟨y, k1, k2, k3.more ?_, k4⟩
    have := Nat.mul_le_mul (Nat.le_trans hxn hNN) (show 5 * L + 1 ≤ 5001 by omega)
    omega)
  have RZ := hide (show ∀ x ∈ m, ∀ c, Sz Q (gsum (tms x.d) c) M from fun x hx c => col_sz hv hN h1 hM hx c)
  have MC := hide (show ∀ W, Below w.heap.size w W → _ from fun W hb => most_m (hv.step hb) hN hNN h1 hL (by rw [← hlen]; exact hm))
  have HV := hide hv
  have HN := hide hlen
  have T0 := hide (show Mg (w.alloc (.cells #[] 47)) w.heap.size (.slice (some ⟨w.heap.size, 0, none⟩) 0 0) [] M from ⟨Ow.lit (B := w.heap.size) em_len w 47 ([] : List Vx) #[] rfl (Nat.le_refl _) (by simp [maxLen]), fun x hx => by cases hx⟩)
  have B0 := hide b0
  unfold maxLen at hc2
  clear hv hc3 hlen hN h1 hL hM hNN b0
  go_enter Tryz.func68, Tryz.ntmps68
  by_cases hneg : n < 0
  · have q1 : decide (n < 0) = true := decide_eq_true hneg
    have BAD := hide (show TrBad m n from .inr (.inl hneg))
    clear hneg hn
    go_wp2_with fail
    go_ret2
    exact ⟨B0.out, .inl ⟨BAD.out, _, rfl, T0.out⟩⟩
  · by_cases hbig : 65536 < n
    · have q1 : decide (n < 0) = false := decide_eq_false hneg
      have q2 : decide (65536 < n) = true := decide_eq_true hbig
      have BAD := hide (show TrBad m n from .inr (.inr hbig))
      clear hneg hbig hn
      go_wp2_with fail
      go_ret2
      exact ⟨B0.out, .inl ⟨BAD.out, _, rfl, T0.out⟩⟩
    · obtain ⟨p, rfl⟩ : ∃ p : Nat, n = (p : Int) := ⟨n.toNat, by omega⟩
      have hp : p ≤ 1000 := by omega
      have q1 : decide ((p : Int) < 0) = false := decide_eq_false hneg
      have q2 : decide ((65536 : Int) < (p : Int)) = false := decide_eq_false hbig
      have q3 : decide (65536 < p) = false := decide_eq_false (by omega)
      have MC0 := hide (MC.out _ B0.out)
      clear hneg hbig hn MC
      go_wp2_with fail
      refine MC0.out.mono ?_
      rintro e w2 ⟨z, rfl, hz, bx⟩
      have T2 := hide (T0.out.step bx)
      have B2 := hide (Below.step B0.out B0.out.size bx)
      have HZ := hide (hz (p : Int) (by omega))
      clear hz bx MC0 T0 B0
      by_cases hge : (p : Int) ≤ z
      · have q4 : decide ((p : Int) ≤ z) = true := decide_eq_true hge
        have BAD := hide (show TrBad m (p : Int) from .inl (HZ.out.1 hge))
        clear hge
        go_wp2_with fail
        go_ret2
        exact ⟨B2.out, .inl ⟨BAD.out, _, rfl, T2.out⟩⟩
      · have q4 : decide ((p : Int) ≤ z) = false := decide_eq_false hge
        have GOOD := hide (show ¬ TrBad m (p : Int) from by rintro (h | h | h); exact hge (HZ.out.2 h); omega; omega)
        clear hge
        go_wp2_with fail
        go_loopw [6, 7] (fun ov cv wr => ∃ (k : Nat) (os : List Vx), k ≤ p ∧ cv = .int .i64 (k : Int) ∧ Hid (os.length = k) ∧ Hid (Cl m os) ∧ Hid (Below w.heap.size w wr) ∧ Hid (Mg wr w.heap.size ov os M)) (fun _ cv _ => p - (intOf cv).toNat)
        case atStart => exact ⟨0, [], Nat.zero_le _, rfl, hide rfl, hide (fun c y h => by simp at h), B2, T2⟩
        case round =>
          obtain ⟨k, os, hk, rfl, KL, V, B, T⟩ := hrel
          by_cases hlt : k < p
          · have HLEN := hide (show os.length + 1 ≤ 1000000000000 by have := KL.out; omega)
            have l0 : (0 : Int) ≤ (k : Int) := by omega
            have l1 : (k : Int) < (p : Int) := by omega
            have b8 := alloc_below wr (.cells #[] 63)
            have Z0 := hide b8
            have Y0 := hide (show Tg (wr.alloc (.cells #[] 63)) wr.heap.size (.slice (some ⟨wr.heap.size, 0, none⟩) 0 0) [] M from ⟨Ow.lit (B := wr.heap.size) et_len wr 63 ([] : List Tx) #[] rfl (Nat.le_refl _) (by simp [maxLen]), fun x hx => by cases hx⟩)
            clear b8
            go_wp2_with fail
            obtain ⟨wo, hwo⟩ : ∃ wo, wo = wr := ⟨_, rfl⟩
            subst hwo
            go_loopw [8, 9] (fun yv cv wr => ∃ (i : Nat) (ys : List Tx), i ≤ q ∧ cv = .int .i64 (i : Int) ∧ Hid (ys.length ≤ i) ∧ Hid (Fm (tms ys) ∧ ∀ j : Int, 0 ≤ j → gsum (tms ys) j = if j < (i : Int) then gsum (rwA m j) (k : Int) else 0) ∧ Hid (Below wo.heap.size wo wr) ∧ Hid (Tg wr wo.heap.size yv ys M)) (fun _ cv _ => q - (intOf cv).toNat)
            case atStart => exact ⟨0, [], Nat.zero_le _, rfl, hide (Nat.le_refl _), hide ⟨Fm.nil, fun j hj => by rw [if_neg (by omega)]; rfl⟩, Z0, Y0⟩
            case round =>
              obtain ⟨i, ys, hi', rfl, YL, YV, Z, Y⟩ := hrel
              have B5 := hide (Below.step B.out B.out.size Z.out)
              by_cases hit : i < q
              · obtain ⟨x, hx⟩ := len_of (d := m) (k := i) (by rw [← HN.out]; exact hit)
                have hxm := List.mem_of_getElem? hx
                have RX := hide (RZ.out x hxm (k : Int))
                have XR := hide (rwA_in hx)
                have GC := hide (GG.out x wr k hxm B5.out)
                have YLEN := hide (show ys.length + 1 ≤ 1000000000000 by have := YL.out; omega)
                have m0 : (0 : Int) ≤ (i : Int) := by omega
                have m1 : (i : Int) < (q : Int) := by omega
                obtain ⟨b, off, rfl, hb, hcs⟩ := (HV.out.1.step B5.out).get hx
                have c0 := hcs 0 _ rfl
                rw [Nat.add_zero, Nat.mul_one] at c0
                clear hx hxm hb hcs
                go_wp2_with fail
                refine GC.out.mono ?_
                rintro e w3 ⟨x1, rfl, hx1, rg, b2⟩
                have bx := b2.trans ((alloc_below w3 (fqbox x1.s (sv x1.u) (sv x1.t))).mono b2.size)
                have R3 := hide (rg.step (alloc_below w3 (fqbox x1.s (sv x1.u) (sv x1.t))))
                have Q3 := hide (Fq.new w3 x1.s (sv x1.u) (sv x1.t))
                have Y3 := hide (Y.out.step bx)
                have Z3 := hide (Below.step Z.out Z.out.size bx)
                have X3 := hide hx1
                have SC := hide (rqsign_any R3.out)
                obtain ⟨p0, p1, p2, _, _, _⟩ := Q3.out.all
                clear rg b2 bx hx1 c0 GC Y Z
                go_wp2_with fail
                generalize (w3.alloc (fqbox x1.s (sv x1.u) (sv x1.t))) = w4 at *
                generalize w3.heap.size = g6 at *
                refine SC.out.mono ?_
                rintro e w5 ⟨rfl, b4⟩
                have Y5 := hide (Y3.out.step b4)
                have Z5 := hide (Below.step Z3.out Z3.out.size b4)
                have R5 := hide (R3.out.step b4)
                have Q5 := hide (Q3.out.step b4)
                clear b4 SC p0 p1 p2 Q3 Y3 Z3 R3
                by_cases h0 : x1.r = 0
                · have t2 : (cmpR x1.r 0 != 0) = false := by rw [h0, cmpR_same]; rfl
                  have V2 := hide (show Fm (tms ys) ∧ ∀ j : Int, 0 ≤ j → gsum (tms ys) j = if j < ((i + 1 : Nat) : Int) then gsum (rwA m j) (k : Int) else 0 from ⟨YV.out.1, fun j hj => by
                    rw [YV.out.2 j hj]
                    by_cases e : j = (i : Int)
                    · subst e
                      rw [if_neg (by omega), if_pos (by omega), XR.out, ← X3.out, h0]
                    · by_cases e2 : j < (i : Int)
                      · rw [if_pos e2, if_pos (by omega)]
                      · rw [if_neg e2, if_neg (by omega)]⟩)
                  clear h0 R5 Q5
                  go_wp2_with fail
                  exact ⟨⟨i + 1, ys, by omega, by go_num, hide (Nat.le_succ_of_le YL.out), V2, Z5, Y5⟩, by simp [intOf]; omega⟩
                · have t2 : (cmpR x1.r 0 != 0) = true := cmpR_ne h0
                  have H0 := hide h0
                  obtain ⟨p0, p1, p2, _, _, _⟩ := Q5.out.all
                  have TC := hide (rfto_g R5.out (by omega))
                  clear h0
                  go_wp2_with fail
                  refine TC.out.mono ?_
                  rintro e w6 ⟨z1, rfl, hz1', rz, bx⟩
                  have Y6 := hide (Y5.out.step bx)
                  have HZ1 := hide (show z1.r = gsum (tms x.d) (k : Int) from hz1'.trans X3.out)
                  have X6 := hide ((rz.mono (B' := wo.heap.size) Z5.out.size).fit (M := M) (by rw [HZ1.out]; exact RX.out))
                  have Z6 := hide (Below.step Z5.out Z5.out.size bx)
                  have NZ := hide (show z1.r ≠ 0 by rw [hz1']; exact H0.out)
                  clear hz1' rz bx TC Y5 Z5 R5 Q5 p0 p1 p2 H0
                  go_wp2_with (at_builtin; go_must (refine wpList_pushE rfl (.tmp 46) (.tmp 51) 47 rfl Tryz.underlying47 hi hz0 hz1 hz2 rfl (by omega) et_len et_one w6 wo.heap.size _ ys ⟨(i : Int), z1⟩ _ rfl Y6.out.1 rfl rfl YLEN.out (by decide) Z6.out.size ?_); intro v' w' ho hg; have YF := hide (Y6.out.push ho hg.1 X6.out (Nat.le_refl _)); have ZF := hide (below_own Z6.out Y6.out.1 hg.1 Z6.out.size); clear ho hg)
                  have K2 := hide (show (ys ++ [(⟨(i : Int), z1⟩ : Tx)]).length ≤ i + 1 by have := YL.out; simp; omega)
                  have V2 := hide (show Fm (tms (ys ++ [(⟨(i : Int), z1⟩ : Tx)])) ∧ ∀ j : Int, 0 ≤ j → gsum (tms (ys ++ [(⟨(i : Int), z1⟩ : Tx)])) j = if j < ((i + 1 : Nat) : Int) then gsum (rwA m j) (k : Int) else 0 from by
                    have e1 : tms (ys ++ [(⟨(i : Int), z1⟩ : Tx)]) = tms ys ++ [((i : Int), z1.r)] := by rw [tms_append]; rfl
                    rw [e1]
                    refine ⟨fm_push YV.out.1 (by omega) NZ.out (fun j hj => by rw [YV.out.2 j (by omega), if_neg (by omega)]), fun j hj => ?_⟩
                    rw [gsum_snoc, YV.out.2 j hj]
                    by_cases e : j = (i : Int)
                    · subst e
                      rw [if_neg (by omega), if_pos rfl, if_pos (by omega), XR.out, HZ1.out, Rat.zero_add]
                    · rw [show (if ((i : Int), z1.r).1 = j then ((i : Int), z1.r).2 else 0) = (0 : Rat) from if_neg (fun h => e h.symm), Rat.add_zero]
                      by_cases e2 : j < (i : Int)
                      · rw [if_pos e2, if_pos (by omega)]
                      · rw [if_neg e2, if_neg (by omega)])
                  exact ⟨⟨i + 1, ys ++ [⟨(i : Int), z1⟩], by omega, by go_num, K2, V2, ZF, YF⟩, by simp [intOf]; omega⟩
              · obtain rfl : i = q := by omega
                have T2' := hide (T.out.step Z.out)
                have X5 := hide (Y.out.mono (B' := w.heap.size) B.out.size)
                have CQ := hide (show Fm (tms ys) ∧ ∀ j : Int, 0 ≤ j → gsum (tms ys) j = gsum (rwA m j) (k : Int) from ⟨YV.out.1, fun j hj => by
                  rw [YV.out.2 j hj]
                  by_cases e2 : j < (i : Int)
                  · rw [if_pos e2]
                  · rw [if_neg e2, rwA_out m j (.inr (by have := HN.out; omega))]; rfl⟩)
                obtain ⟨A7, n7, c7, rfl⟩ := rv_sl Y.out.tv.1
                clear T Z
                go_wp2_with (at_builtin; go_must (refine wpList_pushE rfl (.tmp 53) (.tmp 55) 72 rfl Tryz.underlying72 gi gz0 gz1 gz2 rfl (by omega) em_len em_one wr w.heap.size _ os ⟨(A7, n7, c7), ys⟩ _ rfl T2'.out.1 rfl rfl HLEN.out (by decide) B5.out.size ?_); intro v' w' ho hg; have TF := hide (T2'.out.push ho hg.1 X5.out); have CF := hide (below_own B5.out T2'.out.1 hg.1 B5.out.size); clear ho hg)
                have K2 := hide (show (os ++ [(⟨(A7, n7, c7), ys⟩ : Vx)]).length = k + 1 by have := KL.out; simp; omega)
                have V2 := hide (show Cl m (os ++ [(⟨(A7, n7, c7), ys⟩ : Vx)]) from get_snoc (R := fun (c : Nat) (y : Vx) => Fm (tms y.d) ∧ ∀ i : Int, 0 ≤ i → gsum (tms y.d) i = gsum (rwA m i) (c : Int)) KL.out V.out CQ.out)
                exact ⟨⟨k + 1, os ++ [⟨(A7, n7, c7), ys⟩], by omega, by go_num, K2, V2, CF, TF⟩, by simp [intOf]; omega⟩
          · obtain rfl : k = p := by omega
            go_wp2_with fail
            go_ret2
            exact ⟨B.out, .inr ⟨GOOD.out, _, os, rfl, T.out, by rw [KL.out], V.out⟩⟩

set_option maxHeartbeats 4000000 in
theorem whole6_g (w : World) (z : Int) (h1 : -9223372036854775808 ≤ z) (h2 : z ≤ 9223372036854775807) :
    Calls Tryz.prog 126 #[.int .i64 z] w (RgRet w (z : Rat) 6) := by
  have HB := hide ((Below.refl w.heap.size w).alloc (Nat.le_refl _) rblk)
  have HZ := hide (Rb.new w)
  go_enter Tryz.func126, Tryz.ntmps126
  go_wp2_with fail
  refine (rqsmall_any (w.alloc rblk) z h1 h2).mono ?_
  rintro e w1 ⟨v, rfl, c1, b1⟩
  have B1 := hide (Below.step HB.out HB.out.size b1)
  have Z1 := hide (HZ.out.step b1)
  have TC := hide (rfto_g c1 (by omega))
  clear b1 c1 HB HZ
  go_wp2_with fail
  refine TC.out.mono ?_
  rintro e w4 ⟨r, rfl, hr, rg, b2⟩
  obtain ⟨⟨k0, k1, k2, f0, f1, f2⟩, fin⟩ := rg_put (w0 := w) (x := r) (L := 6) (rg.mono (B' := w.heap.size) B1.out.size) (Z1.out.step b2) (by omega) (Below.step B1.out B1.out.size b2)
  rw [hr] at fin
  have F := hide fin
  clear fin TC rg b2 Z1 B1
  go_wp2_with fail
  exact bodyPost_ret (rret rfl _ _ _ _ rfl rfl F.out.1) rfl F.out.2

/-- Row j of the unit matrix. -/
def Un (m : List Vx) : Prop := ∀ (j : Nat) y, m[j]? = some y → y.d.length = 1 ∧ ∀ c : Int, gsum (tms y.d) c = if (j : Int) = c then 1 else 0

set_option maxHeartbeats 8000000 in
theorem unit_m {w : World} {n : Nat} (hn : n ≤ 1000) :
    Calls Tryz.prog 71 #[.int .i64 (n : Int)] w fun e w' => ∃ v' m', e = .returned v' ∧ Mg w' w.heap.size v' m' 6 ∧ m'.length = n ∧ Un m' ∧ Below w.heap.size w w' := by
  obtain ⟨j0, gi, gz0, gz1, gz2⟩ := info_parts info_row
  have b0 := alloc_below w (.cells #[] 47)
  have T0 := hide (show Mg (w.alloc (.cells #[] 47)) w.heap.size (.slice (some ⟨w.heap.size, 0, none⟩) 0 0) [] 6 from ⟨Ow.lit (B := w.heap.size) em_len w 47 ([] : List Vx) #[] rfl (Nat.le_refl _) (by simp [maxLen]), fun x hx => by cases hx⟩)
  have B0 := hide b0
  clear b0
  go_enter Tryz.func71, Tryz.ntmps71
  go_wp2_with fail
  go_loopw [3, 4] (fun ov iv wr => ∃ (k : Nat) (os : List Vx), k ≤ n ∧ iv = .int .i64 (k : Int) ∧ Hid (os.length = k) ∧ Hid (Un os) ∧ Hid (Below w.heap.size w wr) ∧ Hid (Mg wr w.heap.size ov os 6)) (fun _ iv _ => n - (intOf iv).toNat)
  case atStart => exact ⟨0, [], Nat.zero_le _, rfl, hide rfl, hide (fun c y h => by simp at h), B0, T0⟩
  case round =>
    obtain ⟨k, os, hk, rfl, KL, V, B, T⟩ := hrel
    by_cases hlt : k < n
    · have HLEN := hide (show os.length + 1 ≤ 1000000000000 by have := KL.out; omega)
      have l0 : (0 : Int) ≤ (k : Int) := by omega
      have l1 : (k : Int) < (n : Int) := by omega
      go_wp2_with fail
      refine (whole6_g wr 1 (by omega) (by omega)).mono ?_
      rintro e w3 ⟨x, rfl, hx, rg, bx⟩
      have al := alloc_below w3 (.cells #[.int .i64 (k : Int), .bool x.s, sv x.u, sv x.t] 63)
      have B3 := hide (Below.step B.out B.out.size bx)
      have X4 := hide (show Tg (w3.alloc (.cells #[.int .i64 (k : Int), .bool x.s, sv x.u, sv x.t] 63)) w.heap.size (.slice (some ⟨w3.heap.size, 0, none⟩) 1 1) [⟨(k : Int), x⟩] 6 from
        ⟨Ow.lit (B := w.heap.size) et_len w3 63 [⟨(k : Int), x⟩] #[.int .i64 (k : Int), .bool x.s, sv x.u, sv x.t] rfl B3.out.size (by simp [maxLen]), fun y hy => by simp at hy; subst hy; exact (rg.mono (B' := w.heap.size) B.out.size).step al⟩)
      have T4 := hide ((T.out.step bx).step al)
      have B4 := hide (Below.step B3.out B3.out.size al)
      have HX := hide hx
      clear hx rg bx al T B
      go_wp2_with (at_builtin; go_must (refine wpList_pushE rfl (.tmp 11) (.tmp 16) 72 rfl Tryz.underlying72 gi gz0 gz1 gz2 rfl (by omega) em_len em_one (w3.alloc (.cells #[.int .i64 (k : Int), .bool x.s, sv x.u, sv x.t] 63)) w.heap.size _ os ⟨(some ⟨w3.heap.size, 0, none⟩, 1, 1), [⟨(k : Int), x⟩]⟩ _ rfl T4.out.1 rfl (by rw [World.size_alloc]; rfl) HLEN.out (by decide) B4.out.size ?_); intro v' w' ho hg; have TF := hide (T4.out.push ho hg.1 X4.out); have CF := hide (below_own B4.out T4.out.1 hg.1 B4.out.size); clear ho hg)
      have K2 := hide (show (os ++ [(⟨(some ⟨w3.heap.size, 0, none⟩, 1, 1), [⟨(k : Int), x⟩]⟩ : Vx)]).length = k + 1 by have := KL.out; simp; omega)
      have V2 := hide (show Un (os ++ [(⟨(some ⟨w3.heap.size, 0, none⟩, 1, 1), [⟨(k : Int), x⟩]⟩ : Vx)]) from get_snoc (R := fun (j : Nat) (y : Vx) => y.d.length = 1 ∧ ∀ c : Int, gsum (tms y.d) c = if (j : Int) = c then 1 else 0) KL.out V.out ⟨rfl, fun c => by
        simp only [tms, tm, List.map_cons, List.map_nil, gsum, HX.out]
        split <;> simp [Rat.add_zero]⟩)
      exact ⟨⟨k + 1, _, by omega, by go_num, K2, V2, CF, TF⟩, by simp [intOf]; omega⟩
    · obtain rfl : k = n := by omega
      go_wp2_with fail
      go_ret
      exact ⟨_, os, rfl, T.out, KL.out, V.out, B.out⟩
end Go.Proofs.YtieicmcbdhaipaaGreat

/-
  What a fraction that is written over leaves, its words below a block C: all blocks from C on, too.
-/

namespace Go.Proofs.YtieicmcbdhaipaaGreat
open Go.RowKit Go.Proofs.YtieicmcbdhaipaaGreat.Num
set_option linter.unusedVariables false
set_option linter.unusedSimpArgs false
set_option maxRecDepth 100000

def Spu (B C : Nat) (w w' : World) : Prop := Spw B w w' ∧ ∀ b, C ≤ b → b < w.heap.size → w'.heap[b]? = w.heap[b]?
theorem Spu.refl (B C : Nat) (w : World) : Spu B C w w := ⟨Spw.refl _ _, fun _ _ _ => rfl⟩
theorem Spu.trans {B C : Nat} {a b c : World} (h : Spu B C a b) (k : Spu B C b c) : Spu B C a c := ⟨h.1.trans k.1, fun g h1 h2 => (k.2 g h1 (Nat.lt_of_lt_of_le h2 h.1.2.1)).trans (h.2 g h1 h2)⟩
theorem Spu.of_below {B C : Nat} {w w' : World} (h : Below w.heap.size w w') (hB : B ≤ w.heap.size) : Spu B C w w' := ⟨Spw.of_below h hB, fun b _ hb => h.block b hb⟩
theorem Spu.put {B C : Nat} {w w' : World} (h : Spu B C w w') {b j : Nat} (hB : B ≤ b) (hC : b < C) (hlb : ∃ cs fz, w'.heap[b]? = some (.cells cs 124 fz)) {z : Int} (hc : w'.cell? ⟨b, j, none⟩ = some (.int .u64 z)) (y : Int) : Spu B C w (w'.setCell ⟨b, j, none⟩ (.int .u64 y)) :=
  ⟨h.1.put hB hlb hc y, fun g h1 h2 => (Below.heap_setCell _ _ _ _ (show g ≠ b by omega)).trans (h.2 g h1 h2)⟩
theorem Wr.lt {W : World} {B : Nat} {x : Sl} (h : Wr W B x) (h0 : 0 < x.2.1) : ∀ b off, x.1 = some ⟨b, off, none⟩ → b < W.heap.size := by
  intro b off e
  rcases h with h | ⟨b', off', e', hB, hlt, hc⟩
  · omega
  · rw [e] at e'
    injection e' with e'
    injection e' with e1 e2
    subst e1
    exact blk_lt hlt
theorem Cw.keepC {W W' : World} {A : Option Addr} {n c x L C : Nat} (h : Cw W (.slice A n c) x L) (hw : Wr W C (A, n, c)) (hk : ∀ b, C ≤ b → b < W.heap.size → W'.heap[b]? = W.heap[b]?) (hs : W.heap.size ≤ W'.heap.size) : Cw W' (.slice A n c) x L := by
  obtain ⟨D, m, e, ⟨h1, h3⟩, h2⟩ := h
  injection e with e1 e2 e3
  subst e1 e2 e3
  refine ⟨A, c, rfl, ⟨h1, fun h0 => ?_⟩, h2⟩
  obtain ⟨b, off, e, hb, hc⟩ := h3 h0
  have hC : C ≤ b := by
    rcases hw with hw | ⟨b', off', e', hB, hlt, hc'⟩
    · exact absurd hw (by show (cn Q x).length ≠ 0; omega)
    · have e' : A = some ⟨b', off', none⟩ := e'
      rw [e] at e'
      injection e' with e'
      injection e' with e1 e2
      omega
  exact ⟨b, off, e, Nat.lt_of_lt_of_le hb hs, fun j hj => (World.cell?_of_block (hk b hC hb)).trans (hc j hj)⟩
theorem Tg.keepC {W W' : World} {C L : Nat} {v : Value} {d : List Tx} (h : Tg W C v d L) (hk : ∀ b, C ≤ b → b < W.heap.size → W'.heap[b]? = W.heap[b]?) (hs : W.heap.size ≤ W'.heap.size) : Tc W' v d L := by
  refine ⟨Ow.rl (T := 63) (B := C) ?_ et_len, fun x hx => ?_⟩
  · obtain ⟨h1, h2⟩ := h.1
    refine ⟨h1, ?_⟩
    rcases h2 with h2 | ⟨g, cap, cur, e, hB, hh, r⟩
    · exact .inl h2
    · exact .inr ⟨g, cap, cur, e, hB, (hk g hB (Array.getElem?_eq_some_iff.1 hh).1).trans hh, r⟩
  · obtain ⟨⟨u, t, e, h1, h2⟩, wu, wt⟩ := h.2 x hx
    injection e with e
    have e3 := congrArg Array.toList e
    simp at e3
    obtain ⟨e4, rfl, rfl⟩ := e3
    exact ⟨_, _, by rw [← e4], h1.keepC wu hk hs, h2.keepC wt hk hs⟩

set_option maxHeartbeats 4000000 in
theorem rspoil_u {w : World} {B C : Nat} {s : Bool} {A D : Option Addr} {n c m d : Nat} (hu : Wr w B (A, n, c)) (ht : Wr w B (D, m, d)) (hn : n ≤ maxLen) (hm : m ≤ maxLen) (hB : B ≤ w.heap.size) (hcu : 0 < n → ∀ b off, A = some ⟨b, off, none⟩ → b < C) (hct : 0 < m → ∀ b off, D = some ⟨b, off, none⟩ → b < C) :
    Calls Tryz.prog 36 #[rv s (.slice A n c) (.slice D m d)] w fun e w' => e = .returned (.tuple #[]) ∧ Spu B C w w' := by
  unfold maxLen at hn hm
  obtain ⟨b1, y0⟩ := fbox1 w s A n c D m d
  have S0 := hide (Spu.of_below (C := C) b1 hB)
  have U := hide (hu.step b1)
  have V := hide (ht.step b1)
  have hgb : Hid ((w.alloc (rbox s (.slice A n c) (.slice D m d))).heap.size = w.heap.size + 1) := hide (by simp)
  have HCU := hide hcu
  have HCT := hide hct
  clear b1 hu ht hB hcu hct
  go_enter Tryz.func36, Tryz.ntmps36
  obtain ⟨p0, p1, p2⟩ := id y0
  go_wp2_with fail
  generalize (w.alloc (rbox s (.slice A n c) (.slice D m d))) = w1 at *
  generalize w.heap.size = gb at *
  clear p0 p1 p2
  have Y := hide y0
  clear y0
  go_loopw [2] (fun iv wr => ∃ k : Nat, k ≤ n ∧ iv = .int .i64 (k : Int) ∧ Spu B C w1 wr) (fun iv _ => n - (intOf iv).toNat)
  case atStart => exact ⟨0, Nat.zero_le _, rfl, Spu.refl _ _ _⟩
  case round =>
    obtain ⟨k, hk, rfl, hs⟩ := hrel
    have x0 := hs.1.cell Y.out.1 (by intro z e; cases e)
    have x1 := hs.1.cell Y.out.2.1 (by intro z e; cases e)
    have x2 := hs.1.cell Y.out.2.2 (by intro z e; cases e)
    by_cases hlt : k < n
    · rcases hs.1.wr U.out with h0 | ⟨b, off, e, hBb, hlb, hc⟩
      · exact absurd h0 (by show n ≠ 0; omega)
      · obtain rfl : A = some ⟨b, off, none⟩ := e
        obtain ⟨⟨z, hz⟩, hf⟩ := hc k hlt
        have hs2 := hide (hs.put hBb (HCU.out (by omega) _ _ rfl) hlb hz 238)
        clear hc hs U hlb
        go_wp2_with fail
        go_roundw
        case rel => exact ⟨k + 1, by omega, by go_num, hs2.out⟩
        case measure => simp [intOf]; omega
    · obtain rfl : n = k := by omega
      have hs1 := hide hs
      clear hs
      go_wp2_with fail
      clear x0 x1 x2
      obtain ⟨wo, hwo⟩ : ∃ wo, wo = wr := ⟨_, rfl⟩
      subst hwo
      go_loopw [3] (fun iv wr => ∃ k : Nat, k ≤ m ∧ iv = .int .i64 (k : Int) ∧ Spu B C w1 wr) (fun iv _ => m - (intOf iv).toNat)
      case atStart => exact ⟨0, Nat.zero_le _, rfl, hs1.out⟩
      case round =>
        obtain ⟨k, hk, rfl, hs⟩ := hrel
        have x0 := hs.1.cell Y.out.1 (by intro z e; cases e)
        have x1 := hs.1.cell Y.out.2.1 (by intro z e; cases e)
        have x2 := hs.1.cell Y.out.2.2 (by intro z e; cases e)
        by_cases hlt : k < m
        · rcases hs.1.wr V.out with h0 | ⟨b, off, e, hBb, hlb, hc⟩
          · exact absurd h0 (by show m ≠ 0; omega)
          · obtain rfl : D = some ⟨b, off, none⟩ := e
            obtain ⟨⟨z, hz⟩, hf⟩ := hc k hlt
            have hs2 := hide (hs.put hBb (HCT.out (by omega) _ _ rfl) hlb hz 238)
            clear hc hs V hlb
            go_wp2_with fail
            go_roundw
            case rel => exact ⟨k + 1, by omega, by go_num, hs2.out⟩
            case measure => simp [intOf]; omega
        · obtain rfl : m = k := by omega
          go_wp2_with fail
          go_end0
          exact ⟨rfl, S0.out.trans hs⟩
end Go.Proofs.YtieicmcbdhaipaaGreat

/-
  Lists of terms that are written over, one behind another: what such a spoil leaves.
-/

namespace Go.Proofs.YtieicmcbdhaipaaGreat
open Go.RowKit Go.Proofs.YtieicmcbdhaipaaGreat.Num
set_option linter.unusedVariables false
set_option linter.unusedSimpArgs false
set_option maxRecDepth 100000

theorem Ow.put_any {W : World} {B g n c i : Nat} {d : List Tx} (h : Ow 63 et 4 W B (.slice (some ⟨g, 0, none⟩) n c) d) (z : Int) :
    ∃ d', Ow 63 et 4 (W.setCell ⟨g, i * 4, none⟩ (.int .i64 z)) B (.slice (some ⟨g, 0, none⟩) n c) d' ∧ d'.map Tx.x = d.map Tx.x := by
  by_cases hi : i < d.length
  · obtain ⟨y, hy⟩ := len_of (d := d) (k := i) hi
    refine ⟨_, h.put1 hy z, ?_⟩
    apply List.ext_getElem?
    intro j
    rw [List.getElem?_map, List.getElem?_map]
    by_cases e : i = j
    · subst e
      rw [List.getElem?_set_self hi, hy]
      rfl
    · rw [List.getElem?_set_ne e]
  · refine ⟨d, ?_, rfl⟩
    have hn := own_len h
    subst hn
    have h1 := World.ownsRow.stored (show W.ownsRow B _ 4 _ d.length _ from h) (i * 4) (.int .i64 z)
    have h2 := h1.1
    rw [List.set_eq_of_length_le (by rw [flat_len et_len]; omega)] at h2
    exact h2
/-- What a spoil leaves: nothing below B and from C on is another one; own lists of terms have their fractions; words may be written over as before. -/
def Spn (B C : Nat) (w w' : World) : Prop := Below B w w' ∧ w.heap.size ≤ w'.heap.size ∧ (∀ B' x, Wr w B' x → Wr w' B' x) ∧ (∀ b, C ≤ b → b < w.heap.size → w'.heap[b]? = w.heap[b]?) ∧
  (∀ (g : Nat) cs T fz, T ≠ 124 → T ≠ 63 → w.heap[g]? = some (.cells cs T fz) → w'.heap[g]? = some (.cells cs T fz)) ∧
  ∀ B' v d, Ow 63 et 4 w B' v d → ∃ d', Ow 63 et 4 w' B' v d' ∧ d'.map Tx.x = d.map Tx.x
theorem Spn.refl (B C : Nat) (w : World) : Spn B C w w := ⟨Below.refl _ _, Nat.le_refl _, fun _ _ h => h, fun _ _ _ => rfl, fun _ _ _ _ _ _ h => h, fun _ _ d h => ⟨d, h, rfl⟩⟩
theorem Spn.trans {B C : Nat} {a b c : World} (h : Spn B C a b) (k : Spn B C b c) : Spn B C a c := by
  refine ⟨h.1.trans k.1, Nat.le_trans h.2.1 k.2.1, fun B' x hx => k.2.2.1 B' x (h.2.2.1 B' x hx), fun g h1 h2 => (k.2.2.2.1 g h1 (Nat.lt_of_lt_of_le h2 h.2.1)).trans (h.2.2.2.1 g h1 h2), fun g cs T fz h1 h2 h3 => k.2.2.2.2.1 g cs T fz h1 h2 (h.2.2.2.2.1 g cs T fz h1 h2 h3), fun B' v d hd => ?_⟩
  obtain ⟨d1, o1, e1⟩ := h.2.2.2.2.2 B' v d hd
  obtain ⟨d2, o2, e2⟩ := k.2.2.2.2.2 B' v d1 o1
  exact ⟨d2, o2, e2.trans e1⟩
theorem Spn.of_spu {B C : Nat} {w w' : World} (h : Spu B C w w') : Spn B C w w' :=
  ⟨h.1.1, h.1.2.1, fun B' x hx => h.1.wr hx, h.2, fun g cs T fz h1 _ h3 => (Spo.of (row := none) h.1).2.2.2 g cs T fz h1 (by simp) h3, fun B' v d hd => ⟨d, h.1.ow (by decide) hd, rfl⟩⟩
theorem Spn.ow {α : Type} {enc : α → List Value} {k B C B' : Nat} {T : TypeId} {w w' : World} {v : Value} {d : List α} (h : Spn B C w w') (hT : T ≠ 124) (hT2 : T ≠ 63) (hx : Ow T enc k w B' v d) : Ow T enc k w' B' v d := by
  obtain ⟨h1, h2⟩ := hx
  refine ⟨h1, ?_⟩
  rcases h2 with h2 | ⟨g, cap, cur, rfl, hB, hh, r⟩
  · exact .inl h2
  · exact .inr ⟨g, cap, cur, rfl, hB, h.2.2.2.2.1 g cur T _ hT hT2 hh, r⟩
/-- What may be written over, all of it in blocks below C. -/
def SpC (W : World) (B C : Nat) (v : Value) (d : List Tx) : Prop := Sp W B v d ∧ (∀ g, v.ownBlock = some g → g < C) ∧
  ∀ x ∈ d, (0 < x.x.u.2.1 → ∀ b off, x.x.u.1 = some ⟨b, off, none⟩ → b < C) ∧ (0 < x.x.t.2.1 → ∀ b off, x.x.t.1 = some ⟨b, off, none⟩ → b < C)
theorem Sp.spc {W : World} {B : Nat} {v : Value} {d : List Tx} (h : Sp W B v d) : SpC W B W.heap.size v d :=
  ⟨h, fun g hg => (h.1.lt hg).2, fun x hx => ⟨fun h0 => (h.2 x hx).1.1.lt h0, fun h0 => (h.2 x hx).2.1.lt h0⟩⟩
theorem SpC.step {W W' : World} {B C : Nat} {v : Value} {d : List Tx} (h : SpC W B C v d) (hb : Below W.heap.size W W') : SpC W' B C v d := ⟨h.1.step hb, h.2⟩
theorem SpC.spu {w w' : World} {B C B' C' : Nat} {v : Value} {d : List Tx} (h : SpC w B C v d) (k : Spu B' C' w w') : SpC w' B C v d := by
  refine ⟨h.1.spo (Spo.of (row := none) k.1) ?_, h.2⟩
  cases e : v.ownBlock with
  | none => exact .inl rfl
  | some g => exact .inr (by simp)
theorem SpC.spn {w w' : World} {B C B' C' : Nat} {v : Value} {d : List Tx} (h : SpC w B C v d) (k : Spn B' C' w w') : ∃ d', SpC w' B C v d' ∧ d'.length = d.length := by
  obtain ⟨d', ho, hm⟩ := k.2.2.2.2.2 B v d h.1.1
  have hx : ∀ x ∈ d', ∃ y ∈ d, y.x = x.x := fun x hx => by
    have h1 : x.x ∈ d'.map Tx.x := List.mem_map.2 ⟨x, hx, rfl⟩
    rw [hm] at h1
    obtain ⟨y, hy, e⟩ := List.mem_map.1 h1
    exact ⟨y, hy, e⟩
  refine ⟨d', ⟨⟨ho, fun x h1 => ?_⟩, h.2.1, fun x h1 => ?_⟩, by have := congrArg List.length hm; simpa using this⟩
  · obtain ⟨y, hy, e⟩ := hx x h1
    rw [← e]
    exact ⟨⟨k.2.2.1 _ _ (h.1.2 y hy).1.1, (h.1.2 y hy).1.2⟩, k.2.2.1 _ _ (h.1.2 y hy).2.1, (h.1.2 y hy).2.2⟩
  · obtain ⟨y, hy, e⟩ := hx x h1
    rw [← e]
    exact h.2.2 y hy
theorem SpC.put {W : World} {B C g n c i : Nat} {d : List Tx} {y : Tx} (h : SpC W B C (.slice (some ⟨g, 0, none⟩) n c) d) (hi : d[i]? = some y) (z : Int) :
    SpC (W.setCell ⟨g, i * 4, none⟩ (.int .i64 z)) B C (.slice (some ⟨g, 0, none⟩) n c) (d.set i ⟨z, y.x⟩) ∧ Spn B C W (W.setCell ⟨g, i * 4, none⟩ (.int .i64 z)) := by
  obtain ⟨s1, s2⟩ := h.1.put hi z
  have s3 := s2 B (Nat.le_refl _)
  have ho : W.grownBy (W.setCell ⟨g, i * 4, none⟩ (.int .i64 z)) (some g) := only_set (p := ⟨g, i * 4, none⟩) (only_refl W (some g)) rfl _
  refine ⟨⟨s1, h.2.1, fun x hx => ?_⟩, s3.1, s3.2.1, s3.2.2.1, fun b h1 h2 => Below.heap_setCell _ _ _ _ (fun e => ?_), fun q cs T fz h1 h2 h3 => s3.2.2.2 q cs T fz h1 (fun e => ?_) h3, fun B' v d' hd => ?_⟩
  · have hm : ∃ x0 ∈ d, x0.x = x.x := by
      rcases List.mem_or_eq_of_mem_set hx with hx | rfl
      · exact ⟨x, hx, rfl⟩
      · exact ⟨y, List.mem_of_getElem? hi, rfl⟩
    obtain ⟨x0, h0, e⟩ := hm
    rw [← e]
    exact h.2.2 x0 h0
  · have hC := h.2.1 g rfl
    have e : b = g := e
    omega
  · injection e with e
    subst e
    rcases h.1.1.form with ⟨e1, _⟩ | ⟨g', cap, cur, e1, hB, hlt, hh, _⟩
    · cases e1
    · injection e1 with e1 e2 e3
      injection e1 with e1
      injection e1 with e1
      subst e1
      rw [hh] at h3
      injection h3 with h3
      injection h3 with _ h4
      exact h2 h4.symm
  · rcases hd.form with ⟨rfl, rfl⟩ | ⟨g', cap, cur, rfl, -⟩
    · exact ⟨[], Ow.nil _ _ _ _ _, rfl⟩
    · by_cases e : g' = g
      · subst e
        exact hd.put_any z
      · exact ⟨d', hd.kept ho (.inr (by simp [Value.ownBlock]; exact e)), rfl⟩

set_option maxHeartbeats 8000000 in
theorem spoil_n {w : World} {B C : Nat} {v : Value} {d : List Tx} (hv : SpC w B C v d) (hB : B ≤ w.heap.size) (hn : d.length ≤ 1000000) :
    Calls Tryz.prog 46 #[v] w fun e w' => e = .returned (.tuple #[]) ∧ Spn B C w w' := by
  obtain ⟨n, hlen⟩ : ∃ n, n = d.length := ⟨_, rfl⟩
  have hvs : ∃ A c, v = .slice A n c ∧ (0 < n → ∃ g, A = some ⟨g, 0, none⟩) := by
    rcases hv.1.1.form with ⟨rfl, rfl⟩ | ⟨g, cap, cur, rfl, _⟩
    · exact ⟨none, 0, by rw [hlen]; rfl, fun h => by simp [hlen] at h⟩
    · exact ⟨_, cap, by rw [hlen], fun _ => ⟨g, rfl⟩⟩
  obtain ⟨A, c, rfl, hA⟩ := hvs
  have HV := hide hv
  have HN := hide hlen
  have HB := hide hB
  have HA := hide hA
  rw [← hlen] at hn
  clear hv hlen hB hA
  go_enter Tryz.func46, Tryz.ntmps46
  go_wp2_with fail
  go_loopw [2] (fun iv wr => ∃ (k : Nat) (dk : List Tx), k ≤ n ∧ iv = .int .i64 (k : Int) ∧ Hid (dk.length = n) ∧ Hid (SpC wr B C (.slice A n c) dk) ∧ Hid (Spn B C w wr)) (fun iv _ => n - (intOf iv).toNat)
  case atStart => exact ⟨0, d, Nat.zero_le _, rfl, hide HN.out.symm, HV, hide (Spn.refl _ _ _)⟩
  case round =>
    obtain ⟨k, dk, hk, rfl, KL, T, S⟩ := hrel
    by_cases hlt : k < n
    · obtain ⟨g, rfl⟩ := HA.out (by omega)
      obtain ⟨x, hx⟩ := len_of (d := dk) (k := k) (by rw [KL.out]; exact hlt)
      have l0 : (0 : Int) ≤ (k : Int) := by omega
      have l1 : (k : Int) < (n : Int) := by omega
      have hx0 := T.out.1.2 x (List.mem_of_getElem? hx)
      have hx1 := T.out.2.2 x (List.mem_of_getElem? hx)
      obtain ⟨c0, c1, c2, c3⟩ := T.out.1.1.cells hx
      have SC := hide (fun W (b : Below wr.heap.size wr W) => rspoil_u (C := C) (s := x.x.s) (A := x.x.u.1) (n := x.x.u.2.1) (c := x.x.u.2.2) (D := x.x.t.1) (m := x.x.t.2.1) (d := x.x.t.2.2) (hx0.1.1.step b) (hx0.2.1.step b) hx0.1.2 hx0.2.2 (Nat.le_trans (Nat.le_trans HB.out S.out.2.1) b.size) hx1.1 hx1.2)
      have HX := hide hx
      clear hx hx0 hx1
      go_wp2_with fail
      refine (SC.out wr (Below.refl _ _)).mono ?_
      rintro e w2 ⟨rfl, sp⟩
      have T2 := hide (T.out.spu sp)
      have S2 := hide (S.out.trans (Spn.of_spu sp))
      obtain ⟨T3, S3⟩ := T2.out.put HX.out (-9)
      have S4 := hide (S2.out.trans S3)
      have T4 := hide T3
      obtain ⟨d0, d1, d2, d3⟩ := T2.out.1.1.cells HX.out
      have f0 := T2.out.1.1.frozen rfl (k * 4)
      have K2 := hide (show (dk.set k ⟨-9, x.x⟩).length = n by rw [List.length_set]; exact KL.out)
      clear SC T S sp T3 S3 c0 c1 c2 c3
      go_wp2_with fail
      exact ⟨⟨k + 1, dk.set k ⟨-9, x.x⟩, by omega, by go_num, K2, T4, S4⟩, by simp [intOf]; omega⟩
    · obtain rfl : k = n := by omega
      go_wp2_with fail
      go_end0
      exact ⟨rfl, S.out⟩

set_option maxHeartbeats 8000000 in
theorem mspoil_m {w : World} {B C : Nat} {v : Value} {m : List Vx} (hv : Ow 47 em 1 w B v m) (hs : ∀ x ∈ m, SpC w B C (sv x.a) x.d ∧ x.d.length ≤ 1000000) (hB : B ≤ w.heap.size) (hm : m.length ≤ 1000000) :
    Calls Tryz.prog 69 #[v] w fun e w' => e = .returned (.tuple #[]) ∧ Spn B C w w' := by
  obtain ⟨n, hlen⟩ : ∃ n, n = m.length := ⟨_, rfl⟩
  obtain ⟨A, n', c, rfl⟩ := rv_sl (hv.rl em_len)
  have hn' : n' = n := by
    obtain ⟨A', c', e, -⟩ := hv.rl em_len
    injection e with e1 e2 e3
    omega
  subst hn'
  have HV := hide hv
  have HS := hide hs
  have HN := hide hlen
  have HB := hide hB
  rw [← hlen] at hm
  clear hv hs hlen hB
  go_enter Tryz.func69, Tryz.ntmps69
  go_wp2_with fail
  go_loopw [2] (fun iv wr => ∃ k : Nat, k ≤ n' ∧ iv = .int .i64 (k : Int) ∧ Hid (Spn B C w wr)) (fun iv _ => n' - (intOf iv).toNat)
  case atStart => exact ⟨0, Nat.zero_le _, rfl, hide (Spn.refl _ _ _)⟩
  case round =>
    obtain ⟨k, hk, rfl, S⟩ := hrel
    by_cases hlt : k < n'
    · obtain ⟨x, hx⟩ := len_of (d := m) (k := k) (by rw [← HN.out]; exact hlt)
      have l0 : (0 : Int) ≤ (k : Int) := by omega
      have l1 : (k : Int) < (n' : Int) := by omega
      have O := S.out.ow (by decide) (by decide) HV.out
      obtain ⟨b, off, rfl, hb, hcs⟩ := (O.rl em_len).get hx
      have c0 := hcs 0 _ rfl
      rw [Nat.add_zero, Nat.mul_one] at c0
      obtain ⟨d', s', l'⟩ := (HS.out x (List.mem_of_getElem? hx)).1.spn S.out
      have SC := hide (spoil_n s' (Nat.le_trans HB.out S.out.2.1) (by rw [l']; exact (HS.out x (List.mem_of_getElem? hx)).2))
      clear hx O hb hcs s' l'
      go_wp2_with fail
      refine SC.out.mono ?_
      rintro e w2 ⟨rfl, sp⟩
      have S2 := hide (S.out.trans sp)
      clear SC S sp c0
      go_wp2_with fail
      exact ⟨⟨k + 1, by omega, by go_num, S2⟩, by simp [intOf]; omega⟩
    · obtain rfl : k = n' := by omega
      go_wp2_with fail
      go_end0
      exact ⟨rfl, S.out⟩
end Go.Proofs.YtieicmcbdhaipaaGreat

/-
  Lengths of rows with the same words; the size of sums of rows.
-/

namespace Go.Proofs.YtieicmcbdhaipaaGreat
open Go.RowKit Go.Proofs.YtieicmcbdhaipaaGreat.Num
set_option linter.unusedVariables false
set_option linter.unusedSimpArgs false
set_option maxRecDepth 100000

theorem Ml.lens {W W' : World} {v v' : Value} {m f : List Vx} {zs : List (List Zt)} {L M N : Nat} (h : Ml W v m zs L) (k : Ml W' v' f zs M) (hb : ∀ x ∈ m, x.d.length ≤ N) : ∀ y ∈ f, y.d.length ≤ N := by
  intro y hy
  obtain ⟨i, hi⟩ := List.getElem?_of_mem hy
  obtain ⟨z, hz⟩ := zs_at k.2.1 hi
  have hlt : i < f.length := (List.getElem?_eq_some_iff.1 hi).1
  obtain ⟨x, hx⟩ := len_of (d := m) (k := i) (by have := h.2.1; have := k.2.1; omega)
  have := hb x (List.mem_of_getElem? hx)
  have := (h.2.2 i x z hx hz).2.1
  have := (k.2.2 i y z hi hz).2.1
  omega

theorem sz_rows {m : List Vx} {y : Int → Rat} {K L N : Nat} (hL : 1 ≤ L) (hy : ∀ i, Sz Q (y i) K) (hm : ∀ i, (∀ t ∈ rwA m i, Sz Q t.2 L) ∧ (rwA m i).length ≤ N) (c : Int) : ∀ k : Nat, Sz Q (sm k (fun i => y (i : Int) * gsum (rwA m (i : Int)) c)) (k * (K + N * (L + 1) + 2) + 1) := by
  intro k
  induction k with
  | zero => exact sz_zero Q_two (by omega)
  | succ k ih =>
    have h1 := sz_gsum (B := Q) Q_two c (hm (k : Int)).1
    have h2 := h1.more Q_pos (show (rwA m (k : Int)).length * (L + 1) + 1 ≤ N * (L + 1) + 1 from Nat.succ_le_succ (Nat.mul_le_mul_right _ (hm (k : Int)).2))
    have h3 := sz_add Q_two ih (sz_mul (hy (k : Int)) h2)
    refine h3.more Q_pos ?_
    rw [Nat.add_mul k 1]
    omega
theorem rwA_szs {w : World} {v : Value} {m : List Vx} {L N : Nat} (hv : Mv w v m L) (hN : ∀ x ∈ m, x.d.length ≤ N) (h1 : 1 ≤ L) (i : Int) : (∀ t ∈ rwA m i, Sz Q t.2 L) ∧ (rwA m i).length ≤ N := by
  unfold rwA
  split
  · split
    · rename_i x hx
      have hm := List.mem_of_getElem? hx
      exact ⟨tsz (hv.2 x hm) h1, by rw [tms_len]; exact hN x hm⟩
    · exact ⟨fun t h => (by cases h), Nat.zero_le _⟩
  · exact ⟨fun t h => (by cases h), Nat.zero_le _⟩
theorem Mg.spc {W : World} {B P : Nat} {v : Value} {m : List Vx} (h : Mg W B v m P) (hP : P ≤ 1000000000) (hl : ∀ x ∈ m, x.d.length ≤ 1000000) : ∀ x ∈ m, SpC W B W.heap.size (sv x.a) x.d ∧ x.d.length ≤ 1000000 :=
  fun x hx => ⟨((h.2 x hx).sp hP).spc, hl x hx⟩
end Go.Proofs.YtieicmcbdhaipaaGreat
