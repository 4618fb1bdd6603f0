/-
  Shared texts, one behind the other: Mat11, Mat12, Spu, Spn, Mlens, Mat13, Mat14, Mat15, Mat16, Mat24, Mat25.
-/
import Derived.Test.YtfnngcaalpknlaaGreatKxMatSides
import Derived.Test.YtfnngcaalpknlaaGreatBundleR
import Derived.Test.YtfnngcaalpknlaaGreatBundleH
import Derived.Test.YtfnngcaalpknlaaGreatBundleO
import Derived.Test.YtfnngcaalpknlaaGreatFl
import Derived.Deep.DeepCutAuto
import Derived.Deep.CutBlock
import Derived.BigGuardPart
import Derived.Deep.QuietTactic
import Derived.BigQuiet

namespace Go.Proofs.YtfnngcaalpknlaaGreat
open Go.RowKit Go.Proofs.YtfnngcaalpknlaaGreat.Num
set_option linter.unusedVariables false
set_option linter.unusedSimpArgs false
set_option maxRecDepth 100000
def Sgp (R : Vx → Vx → Prop) (W : World) (B : Nat) (P k : Nat) (m cur : List Vx) : Prop := cur.length = m.length ∧ ∀ (j : Nat) x y, j < k → m[j]? = some x → cur[j]? = some y → R x y ∧ Tg W B (sv y.a) y.d P
theorem Sgp.step {R : Vx → Vx → Prop} {W W' : World} {B P k : Nat} {m cur : List Vx} (h : Sgp R W B P k m cur) (hb : Below W.heap.size W W') : Sgp R W' B P k m cur := ⟨h.1, fun j x y hj hx hy => ⟨(h.2 j x y hj hx hy).1, (h.2 j x y hj hx hy).2.step hb⟩⟩
theorem Sgp.put {R : Vx → Vx → Prop} {W W' : World} {B P k : Nat} {m cur : List Vx} {x z : Vx} {B' : Nat} {u : Value} {f : List Vx} (h : Sgp R W B P k m cur) (hx : m[k]? = some x) (hz : R x z) (tz : Tg W B (sv z.a) z.d P) (ho : Ow 28 em 1 W B' u f) (hg : W.grownBy W' u.ownBlock) : Sgp R W' B P (k + 1) m (cur.set k z) := by
 have hk := (List.getElem?_eq_some_iff.1 hx).1
 refine ⟨by rw [List.length_set]; exact h.1, fun j a b hj ha hb => ?_⟩
 by_cases e : j = k
 ·subst e
  rw [List.getElem?_set_self (by rw [h.1]; exact hk)] at hb
  rw [hx] at ha
  injection ha with ha
  injection hb with hb
  subst ha hb
  exact ⟨hz, tz.keptM ho hg⟩
 ·rw [List.getElem?_set_ne (fun h => e h.symm)] at hb
  have h1 := h.2 j a b (by omega) ha hb
  exact ⟨h1.1, h1.2.keptM ho hg⟩
def PrOk (b : List Vx) (N : Nat) (x y : Vx) : Prop := Fm (tms y.d) ∧ (∀ c, 0 ≤ c → gsum (tms y.d) c = dt (tms x.d) (fun i => gsum (rwA b i) c)) ∧ y.d.length ≤ x.d.length * N
set_option maxHeartbeats 8000000 in
theorem product_m {w : World} {v u : Value} {m b : List Vx} {L K N1 N P Q : Nat} (hv : Mv w v m L) (hu : Mv w u b K) (hN1 : ∀ x ∈ m, x.d.length ≤ N1) (hN : ∀ x ∈ b, x.d.length ≤ N) (hP : ∀ q, q ≤ N → q * (L + K + 1) + 1 ≤ P) (hPP : P ≤ 1000000) (ho : N1 * N ≤ 100000) (hNN : N ≤ 100000) (h1 : 1 ≤ L) (hL : L ≤ 500000) (h2 : 1 ≤ K) (hK : K ≤ 500000) (hNN1 : N1 ≤ 100000) (hm : m.length ≤ 1000) (hQ : N1 * N * (P + 1) + 1 ≤ Q) :
  Calls Tryz.prog 19 #[v, u] w fun e w' => ∃ v' m', e = .returned v' ∧ Ow 28 em 1 w' w.heap.size v' m' ∧ Sgp (PrOk b N) w' w.heap.size Q m.length m m' ∧ Below w.heap.size w w' := by
 obtain ⟨A, c, e1, hc1, hc2, hc3⟩ := id hv.1
 obtain ⟨A2, n2, c2, rfl⟩ := rv_sl hu.1
 obtain ⟨q, hlen⟩ : ∃ q, q = m.length := ⟨_, rfl⟩
 rw [← hlen] at e1 hc1 hm ⊢
 subst e1
 have HV := hide hv
 have HU := hide hu
 have HN := hide hlen
 have SUM := hide (show ∀ (W : World) (x : Vx), x ∈ m → Tv W (sv x.a) x.d L → Mv W (.slice A2 n2 c2) b K → Calls Tryz.prog 55 #[sv x.a, .slice A2 n2 c2] W (VRet W (fun c => dt (tms x.d) (fun i => gsum (rwA b i) c)) (x.d.length * N) Q) from fun W x hx h k => by
  have hl := hN1 x hx
  have hq := Nat.mul_le_mul_right N hl
  have hq2 := Nat.mul_le_mul_right (P + 1) hq
  refine (sum_m h k hN hP hPP (by omega) hNN h1 hL h2 hK (by omega)).mono ?_
  rintro e w' ⟨v', d', rfl, t, f, g, n, b⟩
  exact ⟨v', d', rfl, t.more (by omega), f, g, n, b⟩)
 unfold maxLen at hc2
 have hmk := make_row q (by omega) w
 have O1 := hide (made1 w w.heap.size q (Nat.le_refl _) (by omega))
 have BA := hide (alloc_below w (.cells (madeCells #[.slice none 0 0] (q * 1)) 28))
 have S1 := hide (show Sgp (PrOk b N) (w.alloc (.cells (madeCells #[.slice none 0 0] (q * 1)) 28)) w.heap.size Q 0 m (List.replicate q zvx) from ⟨by simp [HN.out], fun j x y h => by omega⟩)
 generalize madeCells #[.slice none 0 0] (q * 1) = Z at *
 have hpx : q ≤ 9223372036854775807 := by omega
 have hpz : (0 : Int) ≤ (q : Int) := by omega
 clear hv hu hc3 hlen hN1 hN h1 hL h2 hK hP hPP ho hNN hNN1 hQ
 go_enter Tryz.func19, Tryz.ntmps19
 go_wp2_with fail
 clear hmk
 generalize (w.alloc (.cells Z 28)) = w2 at *
 go_loopw [13] (fun iv wr => ∃ (k : Nat) (cur : List Vx), k ≤ q ∧ iv = .int .i64 (k : Int) ∧ Hid (Below w.heap.size w wr) ∧ Hid (Ow 28 em 1 wr w.heap.size (.slice (some ⟨w.heap.size, 0, none⟩) q q) cur) ∧ Hid (Sgp (PrOk b N) wr w.heap.size Q k m cur)) (fun iv _ => q - (intOf iv).toNat)
 case atStart => exact ⟨0, _, Nat.zero_le _, rfl, BA, O1, S1⟩
 case round =>
  obtain ⟨k, cur, hk, rfl, B, O, S⟩ := hrel
  by_cases hlt : k < q
  ·obtain ⟨x, hx⟩ := len_of (d := m) (k := k) (by rw [← HN.out]; exact hlt)
   have HX := hide hx
   have hmx := List.mem_of_getElem? hx
   have XM := hide hmx
   have RX := hide ((HV.out.2 x hmx).step B.out)
   have UX := hide (HU.out.step B.out)
   obtain ⟨b1, off, rfl, hb, hcs⟩ := (HV.out.1.step B.out).get hx
   have c0 := hcs 0 _ rfl
   rw [Nat.add_zero, Nat.mul_one] at c0
   have l0 : (0 : Int) ≤ (k : Int) := by omega
   have l1 : (k : Int) < (q : Int) := by omega
   clear hcs hb hx hmx
   go_wp2_with fail
   refine (SUM.out _ x XM.out RX.out UX.out).mono ?_
   rintro e w5 ⟨v1, d1, rfl, t1, f1, g1, n1, bx⟩
   obtain ⟨A9, m9, c9, rfl⟩ := rv_sl t1.tv.1
   have T5 := hide (t1.mono (B' := w.heap.size) B.out.size)
   have RO := hide (show PrOk b N x ⟨(A9, m9, c9), d1⟩ from ⟨f1, g1, n1⟩)
   have B5 := hide (Below.step B.out B.out.size bx)
   have O5 := hide (O.out.step bx)
   have S5 := hide (S.out.step bx)
   clear t1 f1 g1 n1 bx B O S c0 RX UX
   obtain ⟨y, hy⟩ := len_of (d := cur) (k := k) (by rw [S5.out.1, ← HN.out]; exact hlt)
   obtain ⟨e0, f0⟩ := O5.out.cellsM hy
   have hg : w5.grownBy (w5.setCell ⟨w.heap.size, k, none⟩ (.slice A9 m9 c9)) (some w.heap.size) := only_set (p := ⟨w.heap.size, k, none⟩) (only_refl w5 _) rfl _
   have O6 := hide (O5.out.putM (i := k) (by rw [S5.out.1, ← HN.out]; exact hlt) ⟨(A9, m9, c9), d1⟩)
   have S6 := hide (S5.out.put HX.out RO.out T5.out O5.out hg)
   have B6 := hide (show Below w.heap.size w _ from (B5.out.grown hg B5.out.size (fun g e => by injection e with e; subst e; exact (O5.out.lt rfl).1)))
   clear hy hg O5 S5 T5 B5
   go_wp2_with fail
   exact ⟨⟨k + 1, _, by omega, by go_num, B6, O6, S6⟩, by simp [intOf]; omega⟩
  ·obtain rfl : k = q := by omega
   go_wp2_with fail
   go_ret
   exact ⟨_, cur, rfl, O.out, S.out, B.out⟩
def Mg (W : World) (B : Nat) (v : Value) (m : List Vx) (P : Nat) : Prop := Ow 28 em 1 W B v m ∧ ∀ x ∈ m, Tg W B (sv x.a) x.d P
theorem Mg.step {W W' : World} {B P : Nat} {v : Value} {m : List Vx} (h : Mg W B v m P) (hb : Below W.heap.size W W') : Mg W' B v m P := ⟨h.1.step hb, fun x hx => (h.2 x hx).step hb⟩
theorem Mg.mc {W : World} {B P : Nat} {v : Value} {m : List Vx} (h : Mg W B v m P) : Mc W v m P := ⟨h.1.rl em_len, fun x hx => (h.2 x hx).tc⟩
theorem Mg.push {W W' : World} {B P : Nat} {v v' : Value} {m : List Vx} {x : Vx} (T : Mg W B v m P) (ho : Ow 28 em 1 W' B v' (m ++ [x])) (hg : W.grownBy W' v.ownBlock) (hx : Tg W B (sv x.a) x.d P) : Mg W' B v' (m ++ [x]) P := by
 refine ⟨ho, fun y hy => ?_⟩
 rcases List.mem_append.1 hy with h | h
 ·exact (T.2 y h).keptM T.1 hg
 ·simp at h
  subst h
  exact hx.keptM T.1 hg
theorem Sgp.mg {R : Vx → Vx → Prop} {W : World} {B P : Nat} {m cur : List Vx} {v : Value} (h : Sgp R W B P m.length m cur) (ho : Ow 28 em 1 W B v cur) : Mg W B v cur P :=
 ⟨ho, fun y hy => by
  obtain ⟨j, hj⟩ := List.getElem?_of_mem hy
  have hlt := (List.getElem?_eq_some_iff.1 hj).1
  obtain ⟨x, hx⟩ := len_of (d := m) (k := j) (by rw [← h.1]; exact hlt)
  exact (h.2 j x y (by rw [← h.1]; exact hlt) hx hj).2⟩
theorem Sgp.rel {R : Vx → Vx → Prop} {W : World} {B P : Nat} {m cur : List Vx} (h : Sgp R W B P m.length m cur) {j : Nat} {x y : Vx} (hx : m[j]? = some x) (hy : cur[j]? = some y) : R x y := (h.2 j x y (List.getElem?_eq_some_iff.1 hx).1 hx hy).1
theorem get_snoc {α : Type} {R : Nat → α → Prop} {os : List α} {z : α} {k : Nat} (hl : os.length = k) (h : ∀ (j : Nat) x, os[j]? = some x → R j x) (hz : R k z) : ∀ (j : Nat) x, (os ++ [z])[j]? = some x → R j x := by
 intro j x hx
 by_cases hj : j < os.length
 ·rw [List.getElem?_append_left hj] at hx
  exact h j x hx
 ·rw [List.getElem?_append_right (by omega)] at hx
  have hj0 : j - os.length = 0 := by
   have := (List.getElem?_eq_some_iff.1 hx).1
   simp at this
   omega
  rw [hj0] at hx
  simp at hx
  subst hx
  rw [show j = k by omega]
  exact hz
def Spu (B C : Nat) (w w' : World) : Prop := Spw B w w' ∧ ∀ b, C ≤ b → b < w.heap.size → w'.heap[b]? = w.heap[b]?
def Spn (B C : Nat) (w w' : World) : Prop := Below B w w' ∧ w.heap.size ≤ w'.heap.size ∧ (∀ B' x, Wr w B' x → Wr w' B' x) ∧ (∀ b, C ≤ b → b < w.heap.size → w'.heap[b]? = w.heap[b]?) ∧
 (∀ (g : Nat) cs T fz, T ≠ 131 → T ≠ 77 → w.heap[g]? = some (.cells cs T fz) → w'.heap[g]? = some (.cells cs T fz)) ∧
 ∀ B' v d, Ow 77 et 4 w B' v d → ∃ d', Ow 77 et 4 w' B' v d' ∧ d'.map Tx.x = d.map Tx.x
theorem mt_take {m : List Vx} {k : Nat} {x : Vx} (hx : m[k]? = some x) (n : Int) : MtBad (m.take (k + 1)) n ↔ MtBad (m.take k) n ∨ ∃ c : Int, n ≤ c ∧ 0 ≤ c ∧ gsum (tms x.d) c ≠ 0 := by
 unfold MtBad
 rw [take_snoc hx]
 constructor
 ·rintro ⟨y, hy, c, h⟩
  rcases List.mem_append.1 hy with hy | hy
  ·exact .inl ⟨y, hy, c, h⟩
  ·simp at hy
   subst hy
   exact .inr ⟨c, h⟩
 ·rintro (⟨y, hy, c, h⟩ | ⟨c, h⟩)
  ·exact ⟨y, List.mem_append.2 (.inl hy), c, h⟩
  ·exact ⟨x, by simp, c, h⟩
theorem fm_some {ts : List Tm} (h : Fm ts) (n : Int) : (∃ t ∈ ts, n ≤ t.1) ↔ ∃ c : Int, n ≤ c ∧ 0 ≤ c ∧ gsum ts c ≠ 0 := by
 constructor
 ·rintro ⟨t, ht, hn⟩
  obtain ⟨h1, h2⟩ := fm_at h ht
  exact ⟨t.1, hn, h2, by rw [h1]; exact (h.2 t ht).2⟩
 ·rintro ⟨c, hn, h0, hc⟩
  rcases Classical.em (∃ t ∈ ts, t.1 = c) with ⟨t, ht, e⟩ | hno
  ·exact ⟨t, ht, by omega⟩
  ·exact absurd (gsum_none (fun t ht e => hno ⟨t, ht, e⟩)) hc
set_option maxHeartbeats 16000000 in
theorem most_m {w : World} {v : Value} {m : List Vx} {L N : Nat} (hv : Mv w v m L) (hN : ∀ x ∈ m, x.d.length ≤ N) (hNN : N ≤ 1000) (h1 : 1 ≤ L) (hL : L ≤ 1000) (hm : m.length ≤ 1000) :
  Calls Tryz.prog 21 #[v] w fun e w' => ∃ z : Int, e = .returned (.int .i64 z) ∧ (∀ n : Int, 0 ≤ n → (n ≤ z ↔ MtBad m n)) ∧ Below w.heap.size w w' := by
 obtain ⟨A, c, e1, hc1, hc2, hc3⟩ := id hv.1
 obtain ⟨n, hlen⟩ : ∃ n, n = m.length := ⟨_, rfl⟩
 rw [← hlen] at e1 hc1 hm
 subst e1
 have HV := hide hv
 have HN := hide hlen
 have NN := hide hN
 have PB := hide (And.intro h1 (And.intro hL hNN))
 unfold maxLen at hc2
 clear hv hc3 hlen hN h1 hL hNN
 go_enter Tryz.func21, Tryz.ntmps21
 go_wp2_with fail
 go_loopw [3, 4] (fun zv iv wr => ∃ (k : Nat) (z : Int), k ≤ n ∧ zv = .int .i64 z ∧ iv = .int .i64 (k : Int) ∧ Hid (∀ q : Int, 0 ≤ q → (q ≤ z ↔ MtBad (m.take k) q)) ∧ Hid (Below w.heap.size w wr)) (fun _ iv _ => n - (intOf iv).toNat)
 case atStart => exact ⟨0, -1, Nat.zero_le _, rfl, rfl, hide (fun q hq => ⟨fun h => by omega, fun ⟨x, hx, _⟩ => by simp at hx⟩), hide (Below.refl _ _)⟩
 case round =>
  obtain ⟨k, z, hk, rfl, rfl, V, B⟩ := hrel
  by_cases hlt : k < n
  ·obtain ⟨x, hx⟩ := len_of (d := m) (k := k) (by rw [← HN.out]; exact hlt)
   have hxm := List.mem_of_getElem? hx
   have TK := hide (mt_take hx)
   have CM := hide (vmake_fl ((HV.out.2 x hxm).step B.out) (Nat.le_trans (NN.out x hxm) PB.out.2.2) PB.out.1 (by have := PB.out.2.1; omega))
   have DN := hide (Nat.le_trans (NN.out x hxm) PB.out.2.2)
   have l0 : (0 : Int) ≤ (k : Int) := by omega
   have l1 : (k : Int) < (n : Int) := by omega
   obtain ⟨b, off, rfl, hb, hcs⟩ := (HV.out.1.step B.out).get hx
   have c0 := hcs 0 _ rfl
   rw [Nat.add_zero, Nat.mul_one] at c0
   clear hx hxm hb hcs
   go_wp2_with fail
   refine CM.out.mono ?_
   rintro e w3 ⟨v3, d3, rfl, t3, f3, g3, n3, bx⟩
   obtain ⟨A3, n3', c3, rfl⟩ := rv_sl t3.tv.1
   have T3 := hide t3.tv.1
   have F3 := hide f3
   have G3 := hide g3
   have H3 := hide (show n3' = d3.length by
    obtain ⟨A', c', e, _⟩ := t3.tv.1
    injection e with e1 e2 e3)
   have hn3 : n3' ≤ 1000 := by rw [H3.out]; exact Nat.le_trans n3 DN.out
   have B3 := hide (Below.step B.out B.out.size bx)
   have V0 := hide (show ∀ q : Int, 0 ≤ q → (q ≤ z ↔ MtBad (m.take k) q ∨ ∃ t ∈ tms (d3.take 0), q ≤ t.1) from fun q hq => by rw [V.out q hq]; simp [tms])
   clear t3 f3 g3 n3 bx CM c0 B V
   go_wp2_with fail
   obtain ⟨wo, hwo⟩ : ∃ wo, wo = w3 := ⟨_, rfl⟩
   subst hwo
   go_loopw [3, 6] (fun zv jv wr => ∃ (j : Nat) (z : Int), j ≤ n3' ∧ zv = .int .i64 z ∧ jv = .int .i64 (j : Int) ∧ Hid (∀ q : Int, 0 ≤ q → (q ≤ z ↔ MtBad (m.take k) q ∨ ∃ t ∈ tms (d3.take j), q ≤ t.1)) ∧ Hid (Below wo.heap.size wo wr)) (fun _ jv _ => n3' - (intOf jv).toNat)
   case atStart => exact ⟨0, z, Nat.zero_le _, rfl, rfl, V0, hide (Below.refl _ _)⟩
   case round =>
    obtain ⟨j, z, hj, rfl, rfl, V, Z⟩ := hrel
    by_cases hjt : j < n3'
    ·obtain ⟨t, ht⟩ := len_of (d := d3) (k := j) (by rw [← H3.out]; exact hjt)
     have E4' := hide (E4.of (T3.out.step Z.out) ht)
     have ST := hide (tms_snoc ht)
     obtain ⟨b2, off2, rfl, -⟩ := E4'.out
     obtain ⟨d0, d1, d2, d3'⟩ := E4'.out.cells
     have m0 : (0 : Int) ≤ (j : Int) := by omega
     have m1 : (j : Int) < (n3' : Int) := by omega
     clear ht d1 d2 d3' E4'
     by_cases hg : z < t.c
     ·have q1 : decide (z < t.c) = true := decide_eq_true hg
      have V2 := hide (show ∀ q : Int, 0 ≤ q → (q ≤ t.c ↔ MtBad (m.take k) q ∨ ∃ y ∈ tms (d3.take (j + 1)), q ≤ y.1) from fun q hq => by
       rw [ST.out]
       constructor
       ·intro h
        exact .inr ⟨tm t, by simp, h⟩
       ·rintro (h | ⟨y, hy, h⟩)
        ·have := (V.out q hq).2 (.inl h); omega
        ·rcases List.mem_append.1 hy with hy | hy
         ·have := (V.out q hq).2 (.inr ⟨y, hy, h⟩); omega
         ·simp at hy; subst hy; exact h)
      clear V hg
      go_wp2_with fail
      exact ⟨⟨j + 1, t.c, by omega, rfl, by go_num, V2, Z⟩, by simp [intOf]; omega⟩
     ·have q1 : decide (z < t.c) = false := decide_eq_false hg
      have V2 := hide (show ∀ q : Int, 0 ≤ q → (q ≤ z ↔ MtBad (m.take k) q ∨ ∃ y ∈ tms (d3.take (j + 1)), q ≤ y.1) from fun q hq => by
       rw [ST.out]
       constructor
       ·intro h
        rcases (V.out q hq).1 h with h | ⟨y, hy, h⟩
        ·exact .inl h
        ·exact .inr ⟨y, List.mem_append.2 (.inl hy), h⟩
       ·rintro (h | ⟨y, hy, h⟩)
        ·exact (V.out q hq).2 (.inl h)
        ·rcases List.mem_append.1 hy with hy | hy
         ·exact (V.out q hq).2 (.inr ⟨y, hy, h⟩)
         ·simp at hy
          subst hy
          have h : q ≤ t.c := h
          omega)
      clear V hg
      go_wp2_with fail
      exact ⟨⟨j + 1, z, by omega, rfl, by go_num, V2, Z⟩, by simp [intOf]; omega⟩
    ·obtain rfl : j = n3' := by omega
     have B4 := hide (Below.step B3.out B3.out.size Z.out)
     have V2 := hide (show ∀ q : Int, 0 ≤ q → (q ≤ z ↔ MtBad (m.take (k + 1)) q) from fun q hq => by
      have h := V.out q hq
      rw [List.take_of_length_le (l := d3) (by rw [← H3.out]; exact Nat.le_refl _), fm_some F3.out] at h
      rw [h, TK.out]
      constructor
      ·rintro (h | ⟨c, h1, h2, h3⟩)
       ·exact .inl h
       ·exact .inr ⟨c, h1, h2, by rwa [← G3.out c h2]⟩
      ·rintro (h | ⟨c, h1, h2, h3⟩)
       ·exact .inl h
       ·exact .inr ⟨c, h1, h2, by rwa [G3.out c h2]⟩)
     clear V Z
     go_wp2_with fail
     exact ⟨⟨k + 1, z, by omega, rfl, by go_num, V2, B4⟩, by simp [intOf]; omega⟩
  ·obtain rfl : k = n := by omega
   have V2 := hide (show ∀ q : Int, 0 ≤ q → (q ≤ z ↔ MtBad m q) from fun q hq => by
    have h := V.out q hq
    rwa [List.take_of_length_le (by rw [← HN.out]; exact Nat.le_refl _)] at h)
   go_wp2_with fail
   go_ret
   exact ⟨z, rfl, V2.out, B.out⟩
set_option maxHeartbeats 4000000 in
theorem whole6_g (w : World) (z : Int) (h1 : -9223372036854775808 ≤ z) (h2 : z ≤ 9223372036854775807) :
  Calls Tryz.prog 48 #[.int .i64 z] w (RgRet w (z : Rat) 6) := by
 have HB := hide ((Below.refl w.heap.size w).alloc (Nat.le_refl _) rblk)
 have HZ := hide (Rb.new w)
 go_enter Tryz.func48, Tryz.ntmps48
 go_wp2_with fail
 refine (rqsmall_any (w.alloc rblk) z h1 h2).mono ?_
 rintro e w1 ⟨v, rfl, c1, b1⟩
 have B1 := hide (Below.step HB.out HB.out.size b1)
 have Z1 := hide (HZ.out.step b1)
 have TC := hide (rfto_g c1 (by omega))
 clear b1 c1 HB HZ
 go_wp2_with fail
 refine TC.out.mono ?_
 rintro e w4 ⟨r, rfl, hr, rg, b2⟩
 obtain ⟨⟨k0, k1, k2, f0, f1, f2⟩, fin⟩ := rg_put (w0 := w) (x := r) (L := 6) (rg.mono (B' := w.heap.size) B1.out.size) (Z1.out.step b2) (by omega) (Below.step B1.out B1.out.size b2)
 rw [hr] at fin
 have F := hide fin
 clear fin TC rg b2 Z1 B1
 go_wp2_with fail
 exact bodyPost_ret (rret rfl _ _ _ _ rfl rfl F.out.1) rfl F.out.2
def Un (m : List Vx) : Prop := ∀ (j : Nat) y, m[j]? = some y → y.d.length = 1 ∧ ∀ c : Int, gsum (tms y.d) c = if (j : Int) = c then 1 else 0
set_option maxHeartbeats 8000000 in
theorem unit_m {w : World} {n : Nat} (hn : n ≤ 1000) :
  Calls Tryz.prog 20 #[.int .i64 (n : Int)] w fun e w' => ∃ v' m', e = .returned v' ∧ Mg w' w.heap.size v' m' 6 ∧ m'.length = n ∧ Un m' ∧ Below w.heap.size w w' := by
 obtain ⟨j0, gi, gz0, gz1, gz2⟩ := info_parts info_row
 have b0 := alloc_below w (.cells #[] 28)
 have T0 := hide (show Mg (w.alloc (.cells #[] 28)) w.heap.size (.slice (some ⟨w.heap.size, 0, none⟩) 0 0) [] 6 from ⟨Ow.lit (B := w.heap.size) em_len w 28 ([] : List Vx) #[] rfl (Nat.le_refl _) (by simp [maxLen]), fun x hx => by cases hx⟩)
 have B0 := hide b0
 clear b0
 go_enter Tryz.func20, Tryz.ntmps20
 go_wp2_with fail
 go_loopw [3, 4] (fun ov iv wr => ∃ (k : Nat) (os : List Vx), k ≤ n ∧ iv = .int .i64 (k : Int) ∧ Hid (os.length = k) ∧ Hid (Un os) ∧ Hid (Below w.heap.size w wr) ∧ Hid (Mg wr w.heap.size ov os 6)) (fun _ iv _ => n - (intOf iv).toNat)
 case atStart => exact ⟨0, [], Nat.zero_le _, rfl, hide rfl, hide (fun c y h => by simp at h), B0, T0⟩
 case round =>
  obtain ⟨k, os, hk, rfl, KL, V, B, T⟩ := hrel
  by_cases hlt : k < n
  ·have HLEN := hide (show os.length + 1 ≤ 1000000000000 by have := KL.out; omega)
   have l0 : (0 : Int) ≤ (k : Int) := by omega
   have l1 : (k : Int) < (n : Int) := by omega
   go_wp2_with fail
   refine (whole6_g wr 1 (by omega) (by omega)).mono ?_
   rintro e w3 ⟨x, rfl, hx, rg, bx⟩
   have al := alloc_below w3 (.cells #[.int .i64 (k : Int), .bool x.s, sv x.u, sv x.t] 77)
   have B3 := hide (Below.step B.out B.out.size bx)
   have X4 := hide (show Tg (w3.alloc (.cells #[.int .i64 (k : Int), .bool x.s, sv x.u, sv x.t] 77)) w.heap.size (.slice (some ⟨w3.heap.size, 0, none⟩) 1 1) [⟨(k : Int), x⟩] 6 from
    ⟨Ow.lit (B := w.heap.size) et_len w3 77 [⟨(k : Int), x⟩] #[.int .i64 (k : Int), .bool x.s, sv x.u, sv x.t] rfl B3.out.size (by simp [maxLen]), fun y hy => by simp at hy; subst hy; exact (rg.mono (B' := w.heap.size) B.out.size).step al⟩)
   have T4 := hide ((T.out.step bx).step al)
   have B4 := hide (Below.step B3.out B3.out.size al)
   have HX := hide hx
   clear hx rg bx al T B
   go_wp2_with (at_builtin; go_must (refine wpList_pushE rfl (.tmp 11) (.tmp 16) 22 rfl Tryz.underlying22 gi gz0 gz1 gz2 rfl (by omega) em_len em_one (w3.alloc (.cells #[.int .i64 (k : Int), .bool x.s, sv x.u, sv x.t] 77)) w.heap.size _ os ⟨(some ⟨w3.heap.size, 0, none⟩, 1, 1), [⟨(k : Int), x⟩]⟩ _ rfl T4.out.1 rfl (by rw [World.size_alloc]; rfl) HLEN.out (by decide) B4.out.size ?_); intro v' w' ho hg; have TF := hide (T4.out.push ho hg.1 X4.out); have CF := hide (below_own B4.out T4.out.1 hg.1 B4.out.size); clear ho hg)
   have K2 := hide (show (os ++ [(⟨(some ⟨w3.heap.size, 0, none⟩, 1, 1), [⟨(k : Int), x⟩]⟩ : Vx)]).length = k + 1 by have := KL.out; simp; omega)
   have V2 := hide (show Un (os ++ [(⟨(some ⟨w3.heap.size, 0, none⟩, 1, 1), [⟨(k : Int), x⟩]⟩ : Vx)]) from get_snoc (R := fun (j : Nat) (y : Vx) => y.d.length = 1 ∧ ∀ c : Int, gsum (tms y.d) c = if (j : Int) = c then 1 else 0) KL.out V.out ⟨rfl, fun c => by
    simp only [tms, tm, List.map_cons, List.map_nil, gsum, HX.out]
    split <;> simp [Rat.add_zero]⟩)
   exact ⟨⟨k + 1, _, by omega, by go_num, K2, V2, CF, TF⟩, by simp [intOf]; omega⟩
  ·obtain rfl : k = n := by omega
   go_wp2_with fail
   go_ret
   exact ⟨_, os, rfl, T.out, KL.out, V.out, B.out⟩
theorem smx_mul (n : Nat) (a : Rat) (f : Nat → Rat) : sm n (fun i => a * f i) = a * sm n f := by
 induction n with
 | zero => simp [sm, Rat.mul_zero]
 | succ n ih => simp only [sm, ih]; grind
theorem smx_add (n : Nat) (f g : Nat → Rat) : sm n (fun i => f i + g i) = sm n f + sm n g := by
 induction n with
 | zero => simp [sm, Rat.add_zero]
 | succ n ih => simp only [sm, ih]; grind
def PrR (b : List Vx) (x y : Vx) : Prop := Fm (tms y.d) ∧ ∀ c, 0 ≤ c → gsum (tms y.d) c = dt (tms x.d) (fun i => gsum (rwA b i) c)
theorem lsame_any {w : World} {u v : Value} {xs ys : List Nat} {L M : Nat} (hu : Lw w u xs L) (hv : Lw w v ys M) :
  Calls Tryz.prog 81 #[u, v] w fun e w' => (∃ b : Bool, e = .returned (.bool b)) ∧ Below w.heap.size w w' := by
 obtain ⟨A, n, c, rfl, hx, _, h1, h2, _⟩ := hu
 obtain ⟨D, m, d, rfl, hy, _, h3, h4, _⟩ := hv
 refine (same_any _ _ A D _ c _ d _ _ w hx hy (by omega) (by omega)).mono fun e w' ⟨he, m, hm⟩ => ⟨⟨_, he⟩, ?_⟩
 rw [hm]
 exact below_drewN (Below.refl _ _) m
set_option maxHeartbeats 1000000 in
theorem zsame_any {w : World} {s t : Bool} {u v : Value} {xs ys : List Nat} {L M : Nat} (hu : Lw w u xs L) (hv : Lw w v ys M) :
  Calls Tryz.prog 80 #[zv s u, zv t v] w fun e w' => (∃ b : Bool, e = .returned (.bool b)) ∧ Below w.heap.size w w' := by
 obtain ⟨A, n, c, rfl⟩ := hu.nw.slice
 obtain ⟨D, m, d, rfl⟩ := hv.nw.slice
 have a1 : Below w.heap.size w (w.alloc (zbox s (.slice A n c))) := (Below.refl _ _).alloc (Nat.le_refl _) _
 have a2 : Below w.heap.size w ((w.alloc (zbox s (.slice A n c))).alloc (zbox t (.slice D m d))) := a1.alloc (by simp) _
 have S := hide (lsame_any (hu.step a2) (hv.step a2))
 have HA := hide a2
 clear hu hv a1 a2
 go_enter Tryz.func80, Tryz.ntmps80
 by_cases hst : (s == t) = true
 ·go_wp2_with (go_at_call 81; refine S.out.mono ?_; rintro e w1 ⟨⟨b9, rfl⟩, b1⟩)
  go_ret
  exact ⟨⟨_, rfl⟩, HA.out.trans (b1.mono HA.out.size)⟩
 ·have hst' : (s == t) = false := by simpa using hst
  clear hst
  go_wp2_with fail
  go_ret
  exact ⟨⟨_, rfl⟩, HA.out⟩
set_option maxHeartbeats 2000000 in
theorem rsame_anyc {w : World} {u v : Value} {r q : Rat} {L M : Nat} (hu : Rc w u r L) (hv : Rc w v q M) :
  Calls Tryz.prog 28 #[u, v] w fun e w' => (∃ b : Bool, e = .returned (.bool b)) ∧ Below w.heap.size w w' := by
 obtain ⟨u1, u2, rfl, a1, a2⟩ := hu
 obtain ⟨v1, v2, rfl, c1, c2⟩ := hv
 obtain ⟨A, n, c, rfl⟩ := a1.nw.slice
 obtain ⟨D, m, d, rfl⟩ := a2.nw.slice
 obtain ⟨F, k, f, rfl⟩ := c1.nw.slice
 obtain ⟨H, l, h, rfl⟩ := c2.nw.slice
 generalize decide (r.num < 0) = s at *
 generalize decide (q.num < 0) = t at *
 obtain ⟨b2, ⟨p0, p1, p2⟩, q0, q1, q2⟩ := f_world0 w s t A D F H n c m d k f l h
 have b3 : Below w.heap.size w ((w.alloc (rbox s (.slice A n c) (.slice D m d))).alloc (rbox t (.slice F k f) (.slice H l h))) := ((Below.refl _ _).alloc (Nat.le_refl _) _).alloc (by simp) _
 have C1 := hide (zsame_any (s := s) (t := t) ((cw_lw a1).step b3) ((cw_lw c1).step b3))
 have N1 := hide ((cw_lw a2).step b3)
 have N2 := hide ((cw_lw c2).step b3)
 have B := hide b3
 have C : Hid (Fx ((w.alloc (rbox s (.slice A n c) (.slice D m d))).alloc (rbox t (.slice F k f) (.slice H l h))) w.heap.size s A n c D m d ∧ Fx ((w.alloc (rbox s (.slice A n c) (.slice D m d))).alloc (rbox t (.slice F k f) (.slice H l h))) (w.heap.size + 1) t F k f H l h) := hide ⟨⟨p0, p1, p2⟩, q0, q1, q2⟩
 clear b2 b3 a1 a2 c1 c2 p0 p1 p2 q0 q1 q2
 go_enter Tryz.func28, Tryz.ntmps28
 go_wp2_with fail
 refine C1.out.mono ?_
 rintro e w1 ⟨⟨b9, rfl⟩, b1⟩
 obtain ⟨p0, p1, p2⟩ := C.out.1.step b1
 obtain ⟨q0, q1, q2⟩ := C.out.2.step b1
 have B1 := hide (Below.step B.out B.out.size b1)
 cases b9
 ·clear C1 N1 N2 B C b1
  go_wp2_with fail
  go_ret
  exact ⟨⟨_, rfl⟩, B1.out⟩
 ·have C2 := hide (lsame_any (N1.out.step b1) (N2.out.step b1))
  clear C1 N1 N2 B C b1
  go_wp2_with fail
  refine C2.out.mono ?_
  rintro e w2 ⟨⟨b8, rfl⟩, b2⟩
  have B2 := hide (Below.step B1.out B1.out.size b2)
  clear C2 B1 b2 p0 p1 p2 q0 q1 q2
  go_wp2_with fail
  go_ret
  exact ⟨⟨_, rfl⟩, B2.out⟩
set_option maxHeartbeats 8000000 in
theorem vsame_any {w : World} {u v : Value} {d f : List Tx} {L M : Nat} (hu : Tc w u d L) (hv : Tc w v f M) :
  Calls Tryz.prog 66 #[u, v] w fun e w' => (∃ b : Bool, e = .returned (.bool b)) ∧ Below w.heap.size w w' := by
 obtain ⟨A, c, e1, hc1, hc2, hc3⟩ := id hu.1
 obtain ⟨D, m, e2, hd1, hd2, hd3⟩ := id hv.1
 obtain ⟨n, hlen⟩ : ∃ n, n = d.length := ⟨_, rfl⟩
 obtain ⟨n', hlen'⟩ : ∃ n', n' = f.length := ⟨_, rfl⟩
 rw [← hlen] at e1 hc1
 rw [← hlen'] at e2 hd1
 subst e1 e2
 have HU := hide hu
 have HV := hide hv
 have HN := hide hlen
 have HL := hide hlen'
 unfold maxLen at hc2
 clear hu hv hc3 hd3 hlen hlen'
 go_enter Tryz.func66, Tryz.ntmps66
 by_cases hnn : n = n'
 case neg =>
  have t0 : ((n : Int) != (n' : Int)) = true := by simp; omega
  go_wp2_with fail
  go_ret
  exact ⟨⟨false, rfl⟩, Below.refl _ _⟩
 subst hnn
 have t0 : ((n : Int) != (n : Int)) = false := by simp
 go_wp2_with fail
 go_loopw [5] (fun iv wr => ∃ k : Nat, k ≤ n ∧ iv = .int .i64 (k : Int) ∧ Hid (Below w.heap.size w wr)) (fun iv _ => n - (intOf iv).toNat)
 case atStart => exact ⟨0, Nat.zero_le _, rfl, hide (Below.refl _ _)⟩
 case round =>
  obtain ⟨k, hk, rfl, B⟩ := hrel
  by_cases hlt : k < n
  ·obtain ⟨x, hx⟩ := len_of (d := d) (k := k) (by rw [← HN.out]; exact hlt)
   obtain ⟨y, hy⟩ := len_of (d := f) (k := k) (by rw [← HL.out]; exact hlt)
   have b8 := (Below.refl wr.heap.size wr).drew
   have B8 := hide (Below.step B.out B.out.size b8)
   have RX := hide (((HU.out.2 x (List.mem_of_getElem? hx)).step B.out).step b8)
   have RY := hide (((HV.out.2 y (List.mem_of_getElem? hy)).step B.out).step b8)
   obtain ⟨b, off, rfl, hb, hc⟩ := ((HU.out.1.step B.out).step b8).get hx
   obtain ⟨b', off', rfl, hb', hc'⟩ := ((HV.out.1.step B.out).step b8).get hy
   have c0 := hc 0 _ rfl
   have c1 := hc 1 _ rfl
   have c2 := hc 2 _ rfl
   have c3 := hc 3 _ rfl
   have e0 := hc' 0 _ rfl
   have e1 := hc' 1 _ rfl
   have e2 := hc' 2 _ rfl
   have e3 := hc' 3 _ rfl
   rw [Nat.add_zero] at c0 e0
   have l0 : (0 : Int) ≤ (k : Int) := by omega
   have l1 : (k : Int) < (n : Int) := by omega
   have P := hide (And.intro c0 (And.intro c1 (And.intro c2 (And.intro c3 (And.intro e0 (And.intro e1 (And.intro e2 e3)))))))
   clear hc hc' hb hb' hx hy b8
   by_cases hxy : x.c = y.c
   ·have t1 : (x.c != y.c) = false := by simp [hxy]
    clear hxy
    go_wp2_with fail
    go_region_held3 (fun W => W.cell? ⟨b, off + k * 4, none⟩ = some (.int .i64 x.c) ∧ W.cell? ⟨b, off + k * 4 + 1, none⟩ = some (.bool x.x.s) ∧ W.cell? ⟨b, off + k * 4 + 2, none⟩ = some (sv x.x.u) ∧ W.cell? ⟨b, off + k * 4 + 3, none⟩ = some (sv x.x.t) ∧ W.cell? ⟨b', off' + k * 4, none⟩ = some (.int .i64 y.c) ∧ W.cell? ⟨b', off' + k * 4 + 1, none⟩ = some (.bool y.x.s) ∧ W.cell? ⟨b', off' + k * 4 + 2, none⟩ = some (sv y.x.u) ∧ W.cell? ⟨b', off' + k * 4 + 3, none⟩ = some (sv y.x.t))
     (exact P.out)
     (first
      | (go_at_call 28; refine Calls.mono (rsame_anyc RX.out RY.out) ?_; rintro e wx ⟨⟨b9, rfl⟩, bx⟩; replace P := hide (And.intro (cell_keep P.out.1 bx) (And.intro (cell_keep P.out.2.1 bx) (And.intro (cell_keep P.out.2.2.1 bx) (And.intro (cell_keep P.out.2.2.2.1 bx) (And.intro (cell_keep P.out.2.2.2.2.1 bx) (And.intro (cell_keep P.out.2.2.2.2.2.1 bx) (And.intro (cell_keep P.out.2.2.2.2.2.2.1 bx) (cell_keep P.out.2.2.2.2.2.2.2 bx)))))))); have B9 := hide (Below.step B8.out B8.out.size bx)))
    all_goals
     clear P c0 c1 c2 c3 e0 e1 e2 e3
     cases b9
     ·go_wp2_with fail
      go_ret
      exact ⟨⟨false, rfl⟩, B9.out⟩
     ·go_wp2_with fail
      exact ⟨⟨k + 1, by omega, by go_num, B9⟩, by simp [intOf]; omega⟩
   ·have t1 : (x.c != y.c) = true := by simp [hxy]
    clear hxy
    have c9 : wr.cell? ⟨b, off + k * 4, none⟩ = some (.int .i64 x.c) := c0
    have e9 : wr.cell? ⟨b', off' + k * 4, none⟩ = some (.int .i64 y.c) := e0
    clear P c0 c1 c2 c3 e0 e1 e2 e3
    go_wp2_with fail
    go_quiet (fail)
    have Z9 := hide (show Below w.heap.size w (wr.drewN nq) from below_drewN B.out nq)
    generalize wr.drewN nq = w9 at *
    go_wp2_with fail
    go_ret
    exact ⟨⟨false, rfl⟩, Z9.out⟩
  ·obtain rfl : k = n := by omega
   go_wp2_with fail
   go_ret
   exact ⟨⟨true, rfl⟩, B.out⟩
set_option maxHeartbeats 8000000 in
theorem msame_g {w : World} {u v : Value} {m f : List Vx} (hu : Lr em 1 w u m) (hv : Lr em 1 w v f) (hl : f.length = m.length)
  (hs : ∀ W (i : Nat) x y, Below w.heap.size w W → m[i]? = some x → f[i]? = some y → Calls Tryz.prog 66 #[sv x.a, sv y.a] W fun e w' => (∃ b : Bool, e = .returned (.bool b)) ∧ Below W.heap.size W w') :
  Calls Tryz.prog 18 #[u, v] w fun e w' => (∃ b : Bool, e = .returned (.bool b)) ∧ Below w.heap.size w w' := by
 obtain ⟨A, c, e1, hc1, hc2, hc3⟩ := id hu
 obtain ⟨D, q, e2, hd1, hd2, hd3⟩ := id hv
 obtain ⟨n, hlen⟩ : ∃ n, n = m.length := ⟨_, rfl⟩
 rw [hl] at e2 hd1
 rw [← hlen] at e1 e2 hc1 hd1
 subst e1 e2
 have HU := hide hu
 have HV := hide hv
 have HS := hide hs
 have HN := hide hlen
 have HL := hide hl
 unfold maxLen at hc2
 have t0 : ((n : Int) != (n : Int)) = false := by simp
 clear hu hv hc3 hd3 hl hlen hs
 go_enter Tryz.func18, Tryz.ntmps18
 go_wp2_with fail
 go_loopw [5] (fun iv wr => ∃ k : Nat, k ≤ n ∧ iv = .int .i64 (k : Int) ∧ Hid (Below w.heap.size w wr)) (fun iv _ => n - (intOf iv).toNat)
 case atStart => exact ⟨0, Nat.zero_le _, rfl, hide (Below.refl _ _)⟩
 case round =>
  obtain ⟨k, hk, rfl, B⟩ := hrel
  by_cases hlt : k < n
  ·obtain ⟨x, hx⟩ := len_of (d := m) (k := k) (by rw [← HN.out]; exact hlt)
   obtain ⟨y, hy⟩ := len_of (d := f) (k := k) (by rw [HL.out, ← HN.out]; exact hlt)
   have b8 := (Below.refl wr.heap.size wr).drew
   have B8 := hide (Below.step B.out B.out.size b8)
   have SC := hide (HS.out _ k x y B8.out hx hy)
   obtain ⟨b, off, rfl, hb, hc⟩ := ((HU.out.step B.out).step b8).get hx
   obtain ⟨b', off', rfl, hb', hc'⟩ := ((HV.out.step B.out).step b8).get hy
   have c0 := hc 0 _ rfl
   have e0 := hc' 0 _ rfl
   rw [Nat.add_zero, Nat.mul_one] at c0 e0
   have l0 : (0 : Int) ≤ (k : Int) := by omega
   have l1 : (k : Int) < (n : Int) := by omega
   have P := hide (And.intro c0 e0)
   clear hc hc' hb hb' hx hy b8
   go_wp2_with fail
   go_region_held3 (fun W => W.cell? ⟨b, off + k, none⟩ = some (sv x.a) ∧ W.cell? ⟨b', off' + k, none⟩ = some (sv y.a))
    (exact P.out)
    (first
     | (go_at_call 66; refine Calls.mono SC.out ?_; rintro e wx ⟨⟨b9, rfl⟩, bx⟩; replace P := hide (And.intro (cell_keep P.out.1 bx) (cell_keep P.out.2 bx)); have B9 := hide (Below.step B8.out B8.out.size bx)))
   all_goals
    clear P c0 e0 SC
    cases b9
    ·go_wp2_with fail
     go_ret
     exact ⟨⟨false, rfl⟩, B9.out⟩
    ·go_wp2_with fail
     exact ⟨⟨k + 1, by omega, by go_num, B9⟩, by simp [intOf]; omega⟩
  ·obtain rfl : k = n := by omega
   go_wp2_with fail
   go_ret
   exact ⟨⟨true, rfl⟩, B.out⟩
theorem msame_any {w : World} {u v : Value} {m f : List Vx} {L M : Nat} (hu : Mc w u m L) (hv : Mc w v f M) (hl : f.length = m.length) :
  Calls Tryz.prog 18 #[u, v] w fun e w' => (∃ b : Bool, e = .returned (.bool b)) ∧ Below w.heap.size w w' :=
 msame_g hu.1 hv.1 hl (fun W i x y hb hx hy => vsame_any ((hu.2 x (List.mem_of_getElem? hx)).step hb) ((hv.2 y (List.mem_of_getElem? hy)).step hb))
theorem lr_take {α : Type} {enc : α → List Value} {k : Nat} {W : World} {A : Option Addr} {n c p : Nat} {d : List α} (h : Lr enc k W (.slice A n c) d) (hp : p ≤ d.length) : Lr enc k W (.slice A p c) (d.take p) := by
 obtain ⟨A', c', e, h1, h2, h3⟩ := h
 injection e with e1 e2 e3
 subst e1 e2 e3
 have hl : (d.take p).length = p := by rw [List.length_take]; omega
 refine ⟨A, c, by rw [hl], by rw [hl]; omega, h2, fun h0 => ?_⟩
 rw [hl] at h0
 obtain ⟨b, off, e, hb, hd⟩ := h3 (by omega)
 refine ⟨b, off, e, hb, fun j x hj i v hi => hd j x ?_ i v hi⟩
 have hjp : j < p := by have := (List.getElem?_eq_some_iff.1 hj).1; omega
 rwa [List.getElem?_take_of_lt hjp] at hj
theorem fv_take {W : World} {A : Option Addr} {n c p L : Nat} {d : List Rx} (h : Fv W (.slice A n c) d L) (hp : p ≤ d.length) : Fv W (.slice A p c) (d.take p) L := ⟨lr_take h.1 hp, fun x hx => h.2 x (List.mem_of_mem_take hx)⟩
theorem sm_swap (M n : Nat) (y : Nat → Rat) (g : Nat → Nat → Rat) (z : Nat → Rat) : sm n (fun c => sm M (fun i => y i * g i c) * z c) = sm M (fun i => y i * sm n (fun c => g i c * z c)) := by
 induction M with
 | zero => simp only [sm]; rw [sm_congr (g := fun _ => 0) (fun i _ => Rat.zero_mul _), sm_zero]
 | succ M ih =>
  simp only [sm]
  rw [← ih, ← smx_mul, ← smx_add]
  exact sm_congr (fun c _ => by grind)
theorem sides_eq {m : List Vx} {o : List Tm} {y f r : List Rx} {l : Rat} (ho : ∀ c, 0 ≤ c → gsum o c = sm m.length (fun i => xf y (i : Int) * gsum (rwA m (i : Int)) c)) (hr : r.length = m.length) (hrr : ∀ (j : Nat) x, r[j]? = some x → x.r = dt (rwA m (j : Int)) (xf f)) (hy : y.length ≤ m.length) (hl : l = dt o (xf f)) :
  l = sm y.length (fun i => xf y (i : Int) * xf r (i : Int)) := by
 rw [hl, dt_sum o f.length (xf f) (fun c hc => xf_out f c hc)]
 rw [sm_congr (g := fun c => sm m.length (fun i => xf y (i : Int) * gsum (rwA m (i : Int)) (c : Int)) * xf f (c : Int)) (fun c _ => by rw [gt, if_pos (by omega), ho _ (by omega)])]
 rw [sm_swap m.length f.length (fun i => xf y (i : Int)) (fun i c => gsum (rwA m (i : Int)) (c : Int)) (fun c => xf f (c : Int))]
 rw [sm_ext (n := y.length) hy (fun i hi => by rw [xf_out y i (.inr (by omega)), Rat.zero_mul])]
 refine sm_congr (fun i hi => ?_)
 obtain ⟨x, hx⟩ := len_of (d := r) (k := i) (by omega)
 rw [xf_in hx, hrr i x hx, dt_sum (rwA m (i : Int)) f.length (xf f) (fun c hc => xf_out f c hc)]
 rw [sm_congr (g := fun c => gt (rwA m (i : Int)) (c : Int) * xf f (c : Int)) (fun c _ => by rw [gt, if_pos (by omega)])]
theorem unit_left {u m p : List Vx} (hu : Un u) (hl : u.length = m.length) (hp : p.length = u.length) (hr : ∀ (j : Nat) x y, u[j]? = some x → p[j]? = some y → PrR m x y) : ∀ (j : Nat) x y, m[j]? = some x → p[j]? = some y → Fm (tms y.d) ∧ ∀ c, 0 ≤ c → gsum (tms y.d) c = gsum (tms x.d) c := by
 intro j x y hx hy
 obtain ⟨z, hz⟩ := len_of (d := u) (k := j) (by rw [← hp]; exact (List.getElem?_eq_some_iff.1 hy).1)
 have h := hr j z y hz hy
 refine ⟨h.1, fun c hc => ?_⟩
 rw [h.2 c hc, dt_rows (m := m) (y := fun k => if (j : Int) = k then 1 else 0) (fun c _ => (hu j z hz).2 c) c]
 have hj := (List.getElem?_eq_some_iff.1 hx).1
 rw [sm_congr (g := fun i => if i = j then gsum (tms x.d) c else 0) (fun i hi => ?_), sm_one _ _ _ hj]
 by_cases e : i = j
 ·subst e
  rw [if_pos rfl, if_pos rfl, rwA_in hx, Rat.one_mul]
 ·rw [if_neg e, if_neg (by omega), Rat.zero_mul]
theorem unx_at {u : List Vx} (h : Un u) (i : Int) (c : Int) : gsum (rwA u i) c = if 0 ≤ i ∧ i < (u.length : Int) ∧ i = c then 1 else 0 := by
 by_cases h0 : 0 ≤ i ∧ i < (u.length : Int)
 ·obtain ⟨k, rfl⟩ : ∃ k : Nat, i = (k : Int) := ⟨i.toNat, by omega⟩
  obtain ⟨y, hy⟩ := len_of (d := u) (k := k) (by omega)
  rw [rwA_in hy, (h k y hy).2 c]
  by_cases e : (k : Int) = c
  ·rw [if_pos e, if_pos ⟨h0.1, h0.2, e⟩]
  ·rw [if_neg e, if_neg (fun h => e h.2.2)]
 ·rw [rwA_out u i (by omega), if_neg (fun h => h0 ⟨h.1, h.2.1⟩)]
  rfl
theorem smx_un {u : List Vx} (h : Un u) (y : Int → Rat) (c : Int) : ∀ k : Nat, k ≤ u.length → sm k (fun i => y (i : Int) * gsum (rwA u (i : Int)) c) = if 0 ≤ c ∧ c < (k : Int) then y c else 0
 | 0, _ => by rw [if_neg (by omega)]; rfl
 | k + 1, hk => by
  have ih := smx_un h y c k (by omega)
  show sm k (fun i => y (i : Int) * gsum (rwA u (i : Int)) c) + y (k : Int) * gsum (rwA u (k : Int)) c = _
  rw [ih]
  by_cases e : (k : Int) = c
  ·subst e
   rw [show gsum (rwA u (k : Int)) (k : Int) = 1 by rw [unx_at h, if_pos ⟨by omega, by omega, rfl⟩], if_neg (by omega), if_pos (by omega), Rat.mul_one, Rat.zero_add]
  ·rw [show gsum (rwA u (k : Int)) c = 0 by rw [unx_at h, if_neg (fun h => e h.2.2)], Rat.mul_zero, Rat.add_zero]
   by_cases e2 : 0 ≤ c ∧ c < (k : Int)
   ·rw [if_pos e2, if_pos (by omega)]
   ·rw [if_neg e2, if_neg (by omega)]
def UL (m p : List Vx) : Prop := p.length = m.length ∧ ∀ (j : Nat) x y, m[j]? = some x → p[j]? = some y → Fm (tms y.d) ∧ ∀ c, 0 ≤ c → gsum (tms y.d) c = gsum (tms x.d) c
def UR (p r : List Vx) : Prop := r.length = p.length ∧ ∀ (j : Nat) x y, p[j]? = some x → r[j]? = some y → Fm (tms y.d) ∧ ∀ c, 0 ≤ c → gsum (tms y.d) c = if c < 60 then gsum (tms x.d) c else 0
theorem uprod {w : World} {v u : Value} {m um : List Vx} (hu : Mv w u um 6) (hv : Mv w v m 6) (hm : ∀ x ∈ m, x.d.length ≤ 30) (hml : m.length ≤ 12) (hul : um.length = m.length) (hun : Un um) :
  Calls Tryz.prog 19 #[u, v] w fun e w' => ∃ A n c p, e = .returned (.slice A n c) ∧ Mg w' w.heap.size (.slice A n c) p 11761 ∧ (∀ x ∈ p, x.d.length ≤ 30) ∧ UL m p ∧ Below w.heap.size w w' := by
 have h1 : ∀ x ∈ um, x.d.length ≤ 1 := fun x hx => by
  obtain ⟨j, hj⟩ := List.getElem?_of_mem hx
  rw [(hun j x hj).1]
  exact Nat.le_refl _
 refine (product_m (N1 := 1) (N := 30) (P := 391) (Q := 11761) hu hv h1 hm (fun q hq => by omega) (by omega) (by omega) (by omega) (by omega) (by omega) (by omega) (by omega) (by omega) (by omega) (by omega)).mono ?_
 rintro e w' ⟨v', m', rfl, o, s, bx⟩
 obtain ⟨A, n, c, rfl⟩ := rv_sl (o.rl em_len)
 have hr : ∀ (j : Nat) x y, um[j]? = some x → m'[j]? = some y → PrR m x y := fun j x y hx hy => ⟨(s.rel hx hy).1, (s.rel hx hy).2.1⟩
 refine ⟨A, n, c, m', rfl, s.mg o, fun y hy => ?_, ⟨by rw [s.1, hul], unit_left hun hul s.1 hr⟩, bx⟩
 obtain ⟨j, hj⟩ := List.getElem?_of_mem hy
 obtain ⟨x, hx⟩ := len_of (d := um) (k := j) (by rw [← s.1]; exact (List.getElem?_eq_some_iff.1 hj).1)
 have h2 := (s.rel hx hj).2.2
 have h3 := h1 x (List.mem_of_getElem? hx)
 have := Nat.mul_le_mul_right 30 h3
 omega
theorem uprod60 {w : World} {v u : Value} {p um : List Vx} (hv : Mv w v p 11761) (hu : Mv w u um 6) (hp : ∀ x ∈ p, x.d.length ≤ 30) (hpl : p.length ≤ 12) (hul : um.length = 60) (hun : Un um) :
  Calls Tryz.prog 19 #[v, u] w fun e w' => ∃ A n c r, e = .returned (.slice A n c) ∧ Mg w' w.heap.size (.slice A n c) r 353101 ∧ UR p r ∧ Below w.heap.size w w' := by
 have h1 : ∀ x ∈ um, x.d.length ≤ 1 := fun x hx => by
  obtain ⟨j, hj⟩ := List.getElem?_of_mem hx
  rw [(hun j x hj).1]
  exact Nat.le_refl _
 refine (product_m (N1 := 30) (N := 1) (P := 11769) (Q := 353101) hv hu hp h1 (fun q hq => by omega) (by omega) (by omega) (by omega) (by omega) (by omega) (by omega) (by omega) (by omega) (by omega) (by omega)).mono ?_
 rintro e w' ⟨v', m', rfl, o, s, bx⟩
 obtain ⟨A, n, c, rfl⟩ := rv_sl (o.rl em_len)
 refine ⟨A, n, c, m', rfl, s.mg o, ⟨s.1, fun j x y hx hy => ⟨(s.rel hx hy).1, fun c hc => ?_⟩⟩, bx⟩
 rw [(s.rel hx hy).2.1 c hc, dt_rows (m := um) (y := gsum (tms x.d)) (fun _ _ => rfl) c, smx_un hun (gsum (tms x.d)) c um.length (Nat.le_refl _), hul]
 by_cases h : c < 60
 ·rw [if_pos h, if_pos (by omega)]
 ·rw [if_neg h, if_neg (by omega)]
theorem sides_same {m p p2 r : List Vx} (h1 : UL m p) (h2 : UL m p2) (h3 : UR p2 r) (hb : ¬ MtBad m 60) : ∀ (i : Nat) x y, p[i]? = some x → r[i]? = some y → tms x.d = tms y.d := by
 intro i x y hx hy
 obtain ⟨a, ha⟩ := len_of (d := m) (k := i) (by rw [← h1.1]; exact (List.getElem?_eq_some_iff.1 hx).1)
 obtain ⟨b, hb2⟩ := len_of (d := p2) (k := i) (by rw [← h3.1]; exact (List.getElem?_eq_some_iff.1 hy).1)
 have k1 := h1.2 i a x ha hx
 have k2 := h2.2 i a b ha hb2
 have k3 := h3.2 i b y hb2 hy
 refine Fm.unique k1.1 k3.1 (fun c hc => ?_)
 rw [k1.2 c hc, k3.2 c hc, k2.2 c hc]
 by_cases h : c < 60
 ·rw [if_pos h]
 ·rw [if_neg h]
  apply Classical.byContradiction
  intro h0
  exact hb ⟨a, List.mem_of_getElem? ha, c, by omega, hc, h0⟩
end Go.Proofs.YtfnngcaalpknlaaGreat
