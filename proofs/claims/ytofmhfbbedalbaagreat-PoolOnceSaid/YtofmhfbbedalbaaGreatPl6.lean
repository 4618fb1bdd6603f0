
/-
 The document's Scale.
-/
import Derived.Test.YtofmhfbbedalbaaGreatPl3
import Derived.Test.YtofmhfbbedalbaaGreatBundleQ
import Derived.Test.YtofmhfbbedalbaaGreatKdr3
import Derived.Deep.DeepCutAuto


namespace Go.Proofs.YtofmhfbbedalbaaGreat
open Go.RowKit Go.Joins Go.Deep Go.Proofs.YtofmhfbbedalbaaGreat.Num
set_option linter.unusedVariables false
set_option linter.unusedSimpArgs false
set_option maxRecDepth 100000
theorem rqneg_fP {w : World} {a : Value} {r : Rat} {L : Nat} (ha : Rf w a r L) (hL : L ≤ 4000000000) :
  Calls Tryz.prog 41 #[a] w (RxRet w (-r) L) :=
 (rqneg_any ha (by omega)).mono fun e w' h => h.to (sz_neg ha.sz)
theorem Rd.setP {W : World} {A : Option Addr} {n : Nat} {xs : List Nat} {p : Addr} {u : Value} (h : Rd .i64 W W.heap.size A n xs) (hn : ∀ z : Int, W.cell? p ≠ some (.int .i64 z)) : Rd .i64 (W.setCell p u) (W.setCell p u).heap.size A n xs := by
 refine ⟨h.1, fun h0 => ?_⟩
 obtain ⟨b, off, e, hb, hc⟩ := h.2 h0
 refine ⟨b, off, e, by simpa [World.setCell] using hb, fun j hj => ?_⟩
 have h1 := hc j hj
 have hne : (⟨b, off + j, none⟩ : Addr) ≠ p := by
  intro e
  rw [e] at h1
  exact hn _ h1
 rw [← h1]
 exact World.cell?_setCell_other W p _ u (Ne.symm hne)
theorem Rf.setP {W : World} {v : Value} {r : Rat} {L : Nat} {p : Addr} {u : Value} (h : Rf W v r L) (hn : ∀ z : Int, W.cell? p ≠ some (.int .i64 z)) : Rf (W.setCell p u) v r L := by
 obtain ⟨u, t, e, ⟨A, c, e1, h1, h2⟩, ⟨D, m, e3, h3, h4⟩⟩ := h
 exact ⟨u, t, e, ⟨A, c, e1, h1.setP hn, h2⟩, ⟨D, m, e3, h3.setP hn, h4⟩⟩
theorem Rf.set3P {W : World} {v : Value} {r : Rat} {L g a b c : Nat} {x1 x2 x3 : Value} (h : Rf W v r L) (h1 : W.cell? ⟨g, a, none⟩ = some x1) (h2 : W.cell? ⟨g, b, none⟩ = some x2) (h3 : W.cell? ⟨g, c, none⟩ = some x3)
  (n1 : ∀ z : Int, x1 ≠ .int .i64 z) (n2 : ∀ z : Int, x2 ≠ .int .i64 z) (n3 : ∀ z : Int, x3 ≠ .int .i64 z) (hab : a ≠ b) (hac : a ≠ c) (hbc : b ≠ c) (u1 u2 u3 : Value) :
  Rf (((W.setCell ⟨g, a, none⟩ u1).setCell ⟨g, b, none⟩ u2).setCell ⟨g, c, none⟩ u3) v r L := by
 have e2 : (W.setCell ⟨g, a, none⟩ u1).cell? ⟨g, b, none⟩ = some x2 := by
  rw [← h2]
  exact World.cell?_setCell_other W _ _ u1 (by intro e; injection e with _ e; exact hab e)
 have e3 : ((W.setCell ⟨g, a, none⟩ u1).setCell ⟨g, b, none⟩ u2).cell? ⟨g, c, none⟩ = some x3 := by
  rw [World.cell?_setCell_other _ _ _ u2 (by intro e; injection e with _ e; exact hbc e), ← h3]
  exact World.cell?_setCell_other W _ _ u1 (by intro e; injection e with _ e; exact hac e)
 exact ((h.setP (fun z e => by rw [h1] at e; injection e with e; exact n1 z e)).setP (fun z e => by rw [e2] at e; injection e with e; exact n2 z e)).setP (fun z e => by rw [e3] at e; injection e with e; exact n3 z e)
def Skl (d : List Tx) (q : Rat) (k : Nat) (cur : List Tx) : Prop := cur.length = d.length ∧ ∀ (j : Nat) x y, d[j]? = some x → cur[j]? = some y → y.c = x.c ∧ y.x.r = if j < k then x.x.r / q else x.x.r
theorem Skl.zero (d : List Tx) (q : Rat) : Skl d q 0 d := ⟨rfl, fun j x y h k => by rw [h] at k; injection k with k; subst k; exact ⟨rfl, by rw [if_neg (by omega)]⟩⟩
theorem Skl.next {d cur : List Tx} {q : Rat} {k : Nat} {x y : Tx} {z : Rx} (h : Skl d q k cur) (hx : d[k]? = some x) (hy : cur[k]? = some y) (hz : z.r = x.x.r / q) : Skl d q (k + 1) (cur.set k ⟨y.c, z⟩) := by
 refine ⟨by rw [List.length_set]; exact h.1, fun j a b ha hb => ?_⟩
 rw [List.getElem?_set] at hb
 split at hb
 ·rename_i e
  subst e
  rw [hx] at ha
  injection ha with ha
  subst ha
  have hl := (List.getElem?_eq_some_iff.1 hy).1
  first | rw [if_pos hl] at hb | skip
  injection hb with hb
  subst hb
  exact ⟨(h.2 k x y hx hy).1, by rw [if_pos (by omega)]; exact hz⟩
 ·rename_i e
  obtain ⟨h1, h2⟩ := h.2 j a b ha hb
  refine ⟨h1, h2.trans ?_⟩
  by_cases hj : j < k
  ·rw [if_pos hj, if_pos (by omega)]
  ·rw [if_neg hj, if_neg (by omega)]
theorem Skl.done {d cur : List Tx} {q : Rat} {k : Nat} (h : Skl d q k cur) (hk : d.length ≤ k) : tms cur = gmul (1 / q) (tms d) := by
 refine List.ext_getElem? (fun j => ?_)
 unfold tms gmul
 rw [List.getElem?_map, List.getElem?_map, List.getElem?_map]
 by_cases hj : j < d.length
 ·obtain ⟨x, hx⟩ := len_of hj
  obtain ⟨y, hy⟩ := len_of (d := cur) (k := j) (by rw [h.1]; exact hj)
  obtain ⟨h1, h2⟩ := h.2 j x y hx hy
  rw [if_pos (by omega)] at h2
  rw [hx, hy]
  have e : x.x.r / q = 1 / q * x.x.r := by rw [Rat.div_def, Rat.div_def, Rat.one_mul, Rat.mul_comm]
  simp [tm, h1, h2, e]
 ·have hc : cur.length ≤ j := by have := h.1; omega
  have hd : d.length ≤ j := by omega
  rw [List.getElem?_eq_none hd, List.getElem?_eq_none hc]
  rfl
theorem Fq.oth {W : World} {g : Nat} {s : Bool} {u t : Value} (h : Fq W g s u t) : Oth W g := ⟨_, _, h, by decide, by decide⟩
theorem Fq.otherP {W : World} {g h : Nat} {s : Bool} {u t : Value} (z : Fq W h s u t) (hne : h ≠ g) (a b c : Nat) (u1 u2 u3 : Value) : Fq (((W.setCell ⟨g, a, none⟩ u1).setCell ⟨g, b, none⟩ u2).setCell ⟨g, c, none⟩ u3) h s u t :=
 ((Below.heap_setCell _ _ u3 h hne).trans ((Below.heap_setCell _ _ u2 h hne).trans (Below.heap_setCell _ _ u1 h hne))).trans z
theorem Kq.other3 {W : World} {g h : Nat} {k : Kx} (z : Kq W h k) (hne : h ≠ g) (a b c : Nat) (u1 u2 u3 : Value) : Kq (((W.setCell ⟨g, a, none⟩ u1).setCell ⟨g, b, none⟩ u2).setCell ⟨g, c, none⟩ u3) h k := ((z.other hne a u1).other hne b u2).other hne c u3
theorem Kz.otherP3 {W : World} {g h : Nat} (z : Kz W h) (hne : h ≠ g) (a b c : Nat) (u1 u2 u3 : Value) : Kz (((W.setCell ⟨g, a, none⟩ u1).setCell ⟨g, b, none⟩ u2).setCell ⟨g, c, none⟩ u3) h := ((z.other hne a u1).other hne b u2).other hne c u3
theorem Fq.triP {W : World} {g : Nat} {s : Bool} {u t : Value} (h : Fq W g s u t) : W.cell? ⟨g, 0, none⟩ = some (.bool s) ∧ W.cell? ⟨g, 1, none⟩ = some u ∧ W.cell? ⟨g, 2, none⟩ = some t := ⟨h.all.1, h.all.2.1, h.all.2.2.1⟩
theorem only_any3 (W : World) (g a b c : Nat) (x y z : Value) : W.grownBy (((W.setCell ⟨g, a, none⟩ x).setCell ⟨g, b, none⟩ y).setCell ⟨g, c, none⟩ z) (some g) :=
 only_set (p := ⟨g, c, none⟩) (only_set (p := ⟨g, b, none⟩) (only_set (p := ⟨g, a, none⟩) (only_refl W (some g)) rfl _) rfl _) rfl _
theorem div_pos_ne {q : Rat} (h : 0 < q) : q ≠ 0 := by grind
theorem one_div_mul' {q : Rat} (h : q ≠ 0) : 1 / q * q = 1 := by grind
theorem div_as {a q : Rat} : a / q = 1 / q * a := by rw [Rat.div_def, Rat.div_def, Rat.one_mul, Rat.mul_comm]
set_option maxHeartbeats 16000000 in
theorem rscale_g {w : World} {k : Kx} {L N : Nat} (hk : Kv w k L) (hn : k.d.length ≤ 1000) (h1 : 1 ≤ L) (hL : L ≤ 100000) (hN : k.d.length * (5 * L + 1) + 6 + 5 * L ≤ N) (hN2 : N ≤ 100000000) :
  Calls Tryz.prog 11 #[kx k] w (ScRet w k (10 * N)) := by
 have b2 : Below w.heap.size w ((w.alloc (kbox k)).alloc kblk) := ((Below.refl _ _).alloc (Nat.le_refl _) _).alloc (by simp) _
 have Z := hide (show Kz ((w.alloc (kbox k)).alloc kblk) (w.heap.size + 1) by
  have h := Kz.new (w.alloc (kbox k))
  have h2 : Kz ((w.alloc (kbox k)).alloc kblk) (w.heap.size + 1) := by simpa using h
  exact h2)
 have P := hide (show Kq ((w.alloc (kbox k)).alloc kblk) w.heap.size k from (Kq.new w k).step ((Below.refl _ _).alloc (Nat.le_refl _) kblk))
 have HK := hide (hk.step b2)
 have B := hide b2
 have z0 := hide (show w.heap.size + 1 < ((w.alloc (kbox k)).alloc kblk).heap.size from Z.out.lt)
 clear hk b2
 obtain ⟨p0, p1, p2, p3, p4⟩ := P.out.all
 go_enter Tryz.func11, Tryz.ntmps11
 go_wp2_with fail
 generalize ((w.alloc (kbox k)).alloc kblk) = w0 at *
 refine (rform_g HK.out hn h1 hL).mono ?_
 rintro e w1 ⟨⟨s1, ⟨A1, n1, c1⟩, d1, y1⟩, rfl, kg, es, al, er, ln, bx⟩
 dsimp only at es al er ln
 subst es
 obtain ⟨hn1, hc1⟩ := lr_nP kg.1.tv.1
 dsimp only at hn1
 have AL := hide al
 have ER := hide er
 have LN := hide ln
 have N1 := hide hn1
 have NN := hide (show 1 ≤ N by omega)
 have l9 : n1 ≤ 1000 := by omega
 have NZ := hide hN2
 have ba := alloc_below w1 (.cells #[.int .i64 k.s, .slice A1 n1 c1, .bool y1.s, sv y1.u, sv y1.t] 29)
 have KG := hide (show Kg (w1.alloc (.cells #[.int .i64 k.s, .slice A1 n1 c1, .bool y1.s, sv y1.u, sv y1.t] 29)) w.heap.size ⟨k.s, (A1, n1, c1), d1, y1⟩ N from
  (show Kg w1 w.heap.size ⟨k.s, (A1, n1, c1), d1, y1⟩ N from ⟨((kg.mono (B' := w.heap.size) B.out.size).1).more hN, ((kg.mono (B' := w.heap.size) B.out.size).2.1).more hN, kg.2.2⟩).step ba)
 have PQ := hide (show Kq (w1.alloc (.cells #[.int .i64 k.s, .slice A1 n1 c1, .bool y1.s, sv y1.u, sv y1.t] 29)) w1.heap.size ⟨k.s, (A1, n1, c1), d1, y1⟩ from Kq.new w1 ⟨k.s, (A1, n1, c1), d1, y1⟩)
 have ZQ := hide ((Z.out.step bx).step ba)
 have G3 := hide (show w.heap.size + 1 < w1.heap.size by have := z0.out; have := bx.size; omega)
 have B2 := hide (Below.step (Below.step B.out B.out.size bx) (Below.step B.out B.out.size bx).size ba)
 obtain ⟨q0, q1, q2, q3, q4⟩ := PQ.out.all
 dsimp only at q0 q1 q2 q3 q4
 clear p0 p1 p2 p3 p4 kg al er ln bx ba hn1 P Z B HK hn hN hN2 z0
 by_cases h0 : n1 = 0
 ·have t1 : ((n1 : Int) == 0) = true := by rw [h0]; rfl
  have H0 := hide h0
  obtain ⟨⟨k0, k1, k2, k3, k4⟩, ⟨g0, g1, g2, g3, g4⟩, fin⟩ := kg_put (w0 := w) (k := ⟨k.s, (A1, n1, c1), d1, y1⟩) KG.out ZQ.out (by omega) B2.out
  dsimp only at fin
  have F9 := hide fin
  clear fin h0
  go_wp2_with fail
  refine bodyPost_ret (kret rfl _ _ _ #[.int .i64 k.s, .slice A1 n1 c1, .bool y1.s, sv y1.u, sv y1.t] rfl rfl F9.out.1) rfl ⟨⟨k.s, (A1, n1, c1), d1, y1⟩, rfl, ⟨F9.out.2.1.1.more (by omega), F9.out.2.1.2.1.more (by omega), F9.out.2.1.2.2⟩, rfl, Scl.mk0 KG.out.2.2 AL.out ?_ ER.out, LN.out, F9.out.2.2⟩
  have e1 : d1.length = 0 := by have := H0.out; have := N1.out; omega
  rw [List.length_eq_zero_iff.1 e1]
  rfl
 ·have t1 : ((n1 : Int) == 0) = false := by rw [beq_eq_false_iff_ne]; omega
  have l1 : (0 : Int) < (n1 : Int) := by omega
  have l2 : 0 < n1 := by omega
  obtain ⟨x0, hx0⟩ := len_of (d := d1) (k := 0) (by have := N1.out; omega)
  have HX := hide hx0
  obtain ⟨gt, cap, cu0, eA, hB, hlt, hh, -⟩ : ∃ gt cap cu0, sv (A1, n1, c1) = .slice (some ⟨gt, 0, none⟩) d1.length cap ∧ w.heap.size ≤ gt ∧ _ ∧ _ ∧ _ := by
   rcases KG.out.1.1.form with ⟨e, h⟩ | h
   ·subst h
    simp at hx0
   ·exact h
  injection eA with eA eB eC
  subst eA
  have GT := hide (show w.heap.size ≤ gt ∧ gt ≠ w.heap.size + 1 ∧ gt ≠ w1.heap.size by
   refine ⟨hB, fun e => ?_, fun e => ?_⟩
   ·have hz := ZQ.out
    unfold Kz at hz
    rw [← e, hh] at hz
    injection hz with hz
    injection hz with _ e2 _
    exact absurd e2 (by decide)
   ·have hz := PQ.out
    unfold Kq at hz
    rw [← e, hh] at hz
    injection hz with hz
    injection hz with _ e2 _
    exact absurd e2 (by decide))
  obtain ⟨u0, u1, u2, u3⟩ := KG.out.1.1.cells (i := 0) hx0
  simp only [Nat.zero_mul, Nat.zero_add] at u0 u1 u2 u3
  have X0 := hide (show x0.x.r ≠ 0 from (KG.out.2.2.2 (tm x0) (List.mem_map.2 ⟨x0, List.mem_of_getElem? hx0, rfl⟩)).2)
  have RX := hide ((KG.out.1.2 x0 (List.mem_of_getElem? hx0)).ra)
  have SZ := hide (KG.out.1.szP NN.out)
  have FM := hide KG.out.2.2
  clear h0 hx0 hB hlt hh eB eC
  change _ = some (Value.slice (some ⟨gt, 0, none⟩) n1 c1) at q1
  change _ = some (Value.bool x0.x.s) at u1
  go_wp2_with fail
  generalize (w1.alloc (.cells #[.int .i64 k.s, .slice (some ⟨gt, 0, none⟩) n1 c1, .bool y1.s, sv y1.u, sv y1.t] 29)) = w2 at *
  generalize w1.heap.size = g3 at *
  refine (rof_f (L := N) RX.out NN.out (by have := NZ.out; omega)).mono ?_
  rintro e w3 ⟨q, rfl, hq, rq, bx⟩
  have ba := alloc_below w3 (fqbox q.s (sv q.u) (sv q.t))
  have HQ := hide hq
  have RQ := hide ((rq.step ba))
  have FQ := hide (Fq.new w3 q.s (sv q.u) (sv q.t))
  have zl := (ZQ.out.step bx).lt
  have pl := (PQ.out.step bx).lt
  have gl := ((KG.out.step bx).1.1.lt (g := gt) rfl).2
  have G4 := hide (And.intro zl (And.intro pl gl))
  clear zl pl gl
  replace KG := hide ((KG.out.step bx).step ba)
  replace PQ := hide ((PQ.out.step bx).step ba)
  replace ZQ := hide ((ZQ.out.step bx).step ba)
  replace B2 := hide (Below.step (Below.step B2.out B2.out.size bx) (Below.step B2.out B2.out.size bx).size ba)
  clear hq rq bx ba q0 q1 q2 q3 q4 u0 u1 u2 u3 RX
  obtain ⟨v0, v1, v2, v3, v4, v5⟩ := FQ.out.all
  go_wp2_with fail
  generalize (w3.alloc (fqbox q.s (sv q.u) (sv q.t))) = w4 at *
  generalize w3.heap.size = g4 at *
  refine (rqsign_any RQ.out).mono ?_
  rintro e w5 ⟨rfl, bx⟩
  replace KG := hide (KG.out.step bx)
  replace PQ := hide (PQ.out.step bx)
  replace ZQ := hide (ZQ.out.step bx)
  replace FQ := hide (FQ.out.step bx)
  replace RQ := hide (RQ.out.step bx)
  replace B2 := hide (Below.step B2.out B2.out.size bx)
  clear bx v0 v1 v2 v3 v4 v5
  obtain ⟨z, hz⟩ : ∃ z, z = cmpR q.r 0 := ⟨_, rfl⟩
  rw [← hz]
  have HZ0 := hide hz
  clear hz
  go_upto_if 21 with fail
  go_cut [] from 21 to 23 (fun wx => ∃ q : Rx, q.r = rdist x0.x.r ∧ Kg wx w.heap.size ⟨k.s, (some ⟨gt, 0, none⟩, n1, c1), d1, y1⟩ N ∧ Kq wx g3 ⟨k.s, (some ⟨gt, 0, none⟩, n1, c1), d1, y1⟩ ∧ Kz wx (w.heap.size + 1) ∧ Fq wx g4 q.s (sv q.u) (sv q.t) ∧ Rf wx (rx q) q.r (5 * N) ∧ Below w.heap.size w wx)
  case first =>
   obtain ⟨v0, v1, v2, v3, v4, v5⟩ := FQ.out.all
   by_cases hr : q.r < 0
   ·have t2 : decide (z < 0) = true := decide_eq_true (by rw [HZ0.out, cmpR_lt hr]; omega)
    rw [t2]
    have E := hide (show rdist x0.x.r = -q.r by unfold rdist; rw [← HQ.out, if_pos hr])
    clear hr
    go_wp2_with fail
    refine (rqneg_fP RQ.out (by have := NZ.out; omega)).mono ?_
    rintro e w6 ⟨q, rfl, hq, rq, bx⟩
    replace HQ := hide (show q.r = rdist x0.x.r by rw [hq, E.out])
    replace KG := hide ((KG.out.step bx).grownO (only_put3 w6 g4 (.bool q.s) (sv q.u) (sv q.t)) (fun g e => by injection e with e; subst e; exact (FQ.out.step bx).oth))
    replace PQ := hide ((PQ.out.step bx).other3 (show g3 ≠ g4 by have := G4.out; omega) 0 1 2 (.bool q.s) (sv q.u) (sv q.t))
    replace ZQ := hide ((ZQ.out.step bx).otherP3 (show w.heap.size + 1 ≠ g4 by have := G4.out; omega) 0 1 2 (.bool q.s) (sv q.u) (sv q.t))
    replace RQ := hide (rq.grownI (only_put3 w6 g4 (.bool q.s) (sv q.u) (sv q.t)) (FQ.out.step bx).nui)
    replace B2 := hide (below_put3 (Below.step B2.out B2.out.size bx) (show w.heap.size ≤ g4 by have := G4.out; omega) (.bool q.s) (sv q.u) (sv q.t))
    clear v0 v1 v2 v3 v4 v5
    obtain ⟨v0, v1, v2, v3, v4, v5⟩ := (FQ.out.step bx).all
    replace FQ := hide ((FQ.out.step bx).put q.s (sv q.u) (sv q.t))
    clear hq rq bx E
    go_wp2_with fail
    go_meet
    exact ⟨q, HQ.out, KG.out, PQ.out, ZQ.out, FQ.out, RQ.out, B2.out⟩
   ·have t2 : decide (z < 0) = false := decide_eq_false (by rw [HZ0.out]; unfold cmpR; rw [if_neg hr]; split <;> omega)
    rw [t2]
    replace HQ := hide (show q.r = rdist x0.x.r by unfold rdist; rw [← HQ.out, if_neg hr])
    clear hr
    go_wp2_with fail
    go_meet
    exact ⟨q, HQ.out, KG.out, PQ.out, ZQ.out, FQ.out, RQ.out, B2.out⟩
  case rest =>
   clear KG PQ ZQ FQ RQ HQ B2
   obtain ⟨q, HQ, KG, PQ, ZQ, FQ, RQ, B2⟩ := hcut
   replace HQ := hide HQ
   replace KG := hide KG
   replace PQ := hide PQ
   replace ZQ := hide ZQ
   replace FQ := hide FQ
   replace RQ := hide RQ
   replace B2 := hide B2
   go_wp2_with fail
   go_loopw [5] (fun iv wr => ∃ (j : Nat) (os : List Tx), j ≤ n1 ∧ iv = .int .i64 (j : Int) ∧ Hid (Below w.heap.size w wr) ∧ Hid (Tg wr w.heap.size (.slice (some ⟨gt, 0, none⟩) n1 c1) os (10 * N)) ∧ Hid (Skl d1 (rdist x0.x.r) j os) ∧ Hid (Kq wr g3 ⟨k.s, (some ⟨gt, 0, none⟩, n1, c1), d1, y1⟩) ∧ Hid (Kz wr (w.heap.size + 1)) ∧ Hid (Fq wr g4 q.s (sv q.u) (sv q.t)) ∧ Hid (Rf wr (rx q) q.r (5 * N)) ∧ Hid (Rg wr w.heap.size y1 N)) (fun iv _ => n1 - (intOf iv).toNat)
   case atStart => exact ⟨0, d1, Nat.zero_le _, rfl, B2, hide (KG.out.1.more (by omega)), hide (Skl.zero d1 _), PQ, ZQ, FQ, RQ, hide KG.out.2.1⟩
   case round =>
    clear KG PQ ZQ FQ RQ B2
    obtain ⟨j, os, hj, rfl, B, T, SK, PQ, ZQ, FQ, RQ, RY⟩ := hrel
    obtain ⟨q0, q1, q2, q3, q4⟩ := PQ.out.all
    dsimp only at q0 q1 q2 q3 q4
    change _ = some (Value.slice (some ⟨gt, 0, none⟩) n1 c1) at q1
    by_cases hlt : j < n1
    ·obtain ⟨x, hx⟩ := len_of (d := d1) (k := j) (by rw [← N1.out]; exact hlt)
     obtain ⟨y, hy⟩ := len_of (d := os) (k := j) (by rw [SK.out.1, ← N1.out]; exact hlt)
     have YR := hide (show y.x.r = x.x.r by have := (SK.out.2 j x y hx hy).2; rwa [if_neg (Nat.lt_irrefl j)] at this)
     have RX := hide ((T.out.2 y (List.mem_of_getElem? hy)).fit (by rw [YR.out]; exact SZ.out (tm x) (List.mem_map.2 ⟨x, List.mem_of_getElem? hx, rfl⟩)))
     obtain ⟨u0, u1, u2, u3⟩ := T.out.1.cells hy
     have HX9 := hide hx
     have HY := hide hy
     have l3 : (0 : Int) ≤ (j : Int) := by omega
     have l4 : (j : Int) < (n1 : Int) := by omega
     have KP := hide (show ∀ V, Below wr.heap.size wr V → _ ∧ (_ ∧ _ ∧ _) ∧ _ from fun V h => And.intro (cell_keep q1 h) (And.intro (And.intro (cell_keep u1 h) (And.intro (cell_keep u2 h) (cell_keep u3 h))) (FQ.out.step h).triP))
     have hd0 := hide (show rdist x0.x.r ≠ 0 from div_pos_ne (rdist_pos X0.out))
     have BW := hide (show Below wr.heap.size wr wr.drew from (Below.refl _ _).drew)
     clear hx hy u0 u1 u2 u3
     go_wp2_with fail
     clear q0 q1 q2 q3 q4
     refine wp_till (S := fun W => W.cell? ⟨g3, 1, none⟩ = some (.slice (some ⟨gt, 0, none⟩) n1 c1) ∧ (W.cell? ⟨gt, j * 4 + 1, none⟩ = some (.bool y.x.s) ∧ W.cell? ⟨gt, j * 4 + 2, none⟩ = some (sv y.x.u) ∧ W.cell? ⟨gt, j * 4 + 3, none⟩ = some (sv y.x.t)) ∧ W.cell? ⟨g4, 0, none⟩ = some (.bool q.s) ∧ W.cell? ⟨g4, 1, none⟩ = some (sv q.u) ∧ W.cell? ⟨g4, 2, none⟩ = some (sv q.t)) 13 (by kernel_rfl) ?_ (fun hHeld => ?_)
     ·try dsimp only
      exact KP.out _ BW.out
     generalize wr.drew = V0 at *
     refine tkT 0 (v := ?_) hHeld ?_ ?_; rotate_left; (focus (intro w hSw; (try dsimp only at hSw); go_simp; (try with_reducible rfl)))
     try simp only [Act.put, s1, s2, s3, s4, s5, s6]
     refine tkT 1 (v := ?_) hHeld ?_ ?_; rotate_left; (focus (intro w hSw; (try dsimp only at hSw); go_simp; (try with_reducible rfl)))
     try simp only [Act.put, s1, s2, s3, s4, s5, s6]
     refine tpT 2 hHeld ?_
     try simp only [Act.put, s1, s2, s3, s4, s5, s6]
     refine tkT 3 (v := ?_) hHeld ?_ ?_; rotate_left; (focus (intro w hSw; (try dsimp only at hSw); go_simp; (try with_reducible rfl)))
     try simp only [Act.put, s1, s2, s3, s4, s5, s6]
     refine tkT 4 (v := ?_) hHeld ?_ ?_; rotate_left; (focus (intro w hSw; (try dsimp only at hSw); go_simp; (try with_reducible rfl)))
     try simp only [Act.put, s1, s2, s3, s4, s5, s6]
     refine tpT 5 hHeld ?_
     try simp only [Act.put, s1, s2, s3, s4, s5, s6]
     refine tkT 6 (v := ?_) hHeld ?_ ?_; rotate_left; (focus (intro w hSw; (try dsimp only at hSw); go_simp; (try with_reducible rfl)))
     try simp only [Act.put, s1, s2, s3, s4, s5, s6]
     refine tkT 7 (v := ?_) hHeld ?_ ?_; rotate_left; (focus (intro w hSw; (try dsimp only at hSw); go_simp; (try with_reducible rfl)))
     try simp only [Act.put, s1, s2, s3, s4, s5, s6]
     refine tkT 8 (v := ?_) hHeld ?_ ?_; rotate_left; (focus (intro w hSw; (try dsimp only at hSw); go_simp; (try with_reducible rfl)))
     try simp only [Act.put, s1, s2, s3, s4, s5, s6]
     refine tkT 10 (v := ?_) hHeld ?_ ?_; rotate_left; (focus (intro w hSw; (try dsimp only at hSw); go_simp; (try with_reducible rfl)))
     try simp only [Act.put, s1, s2, s3, s4, s5, s6]
     refine r1T 9 (fun K hK => ?_)
     go_simp; go_at_call 39; refine Calls.mono (rof_f (L := N) (RX.out.ra.step BW.out) NN.out (by have := NZ.out; omega)) ?_; rintro e V1 ⟨p, rfl, hp, rp, bx⟩; have RP := hide rp; have HP := hide hp; clear rp hp; replace BW := hide (Below.step BW.out BW.out.size bx); clear bx; (try dsimp only); refine hK.out _ _ ?_ (fun hHeld => ?_); (focus ((try dsimp only); exact KP.out _ BW.out)); clear hK K
     try simp only [Act.put, s1, s2, s3, s4, s5, s6]
     try simp only [Act.put, s1, s2, s3, s4, s5, s6]
     refine r1T 11 (fun K hK => ?_)
     go_simp; go_at_call 43; refine Calls.mono (rqdiv_any (L := 5 * N) RP.out (RQ.out.step BW.out) (by rw [HQ.out]; exact hd0.out) (by have := NN.out; omega) (by have := NZ.out; omega)) ?_; rintro e V2 ⟨vd, rfl, rd, bx⟩; have RD := hide rd; clear rd RP; replace BW := hide (Below.step BW.out BW.out.size bx); clear bx; (try dsimp only); refine hK.out _ _ ?_ (fun hHeld => ?_); (focus ((try dsimp only); exact KP.out _ BW.out)); clear hK K
     try simp only [Act.put, s1, s2, s3, s4, s5, s6]
     try simp only [Act.put, s1, s2, s3, s4, s5, s6]
     refine r1T 12 (fun K hK => ?_)
     go_simp; go_at_call 42; refine Calls.mono (rfto_g RD.out (by have := NZ.out; omega)) ?_; rintro e V3 ⟨z, rfl, hz, rz, bx⟩; have HZ := hide hz; have RZ := hide ((rz.mono (B' := w.heap.size) (Nat.le_trans B.out.size BW.out.size)).more (M := 10 * N) (by omega)); clear rz hz RD; replace BW := hide (Below.step BW.out BW.out.size bx); clear bx; (try dsimp only); refine hK.out _ _ ?_ (fun hHeld => ?_); (focus ((try dsimp only); exact KP.out _ BW.out)); clear hK K
     try simp only [Act.put, s1, s2, s3, s4, s5, s6]
     try simp only [Act.put, s1, s2, s3, s4, s5, s6]
     refine r1S 13 (fun K hK => ?_)
     go_simp; (try dsimp only); refine hK.out _ _ ?_; clear hK K
     try simp only [Act.put, s1, s2, s3, s4, s5, s6]
     try simp only [Act.put, s1, s2, s3, s4, s5, s6]
     refine r1S 14 (fun K hK => ?_)
     go_simp; (try dsimp only); refine hK.out _ _ ?_; clear hK K
     try simp only [Act.put, s1, s2, s3, s4, s5, s6]
     try simp only [Act.put, s1, s2, s3, s4, s5, s6]
     refine r1S 15 (fun K hK => ?_)
     obtain ⟨-, ⟨s1, s2, s3⟩, -⟩ := KP.out _ BW.out; have TS := T.out.step BW.out; have f1 := TS.1.frozen rfl (j * 4 + 1); have f2 := TS.1.frozen rfl (j * 4 + 2); have f3 := TS.1.frozen rfl (j * 4 + 3); have TN := hide (TS.put3 HY.out RZ.out (Nat.le_refl _)); have PN := hide ((PQ.out.step BW.out).other3 (Ne.symm GT.out.2.2) (j * 4 + 1) (j * 4 + 2) (j * 4 + 3) (.bool z.s) (sv z.u) (sv z.t)); have ZN := hide ((ZQ.out.step BW.out).otherP3 (Ne.symm GT.out.2.1) (j * 4 + 1) (j * 4 + 2) (j * 4 + 3) (.bool z.s) (sv z.u) (sv z.t)); have FN := hide ((FQ.out.step BW.out).otherP (Ne.symm (Nat.ne_of_lt G4.out.2.2)) (j * 4 + 1) (j * 4 + 2) (j * 4 + 3) (.bool z.s) (sv z.u) (sv z.t)); have RN := hide ((RQ.out.step BW.out).set3P s1 s2 s3 (fun z e => Value.noConfusion e) (fun z e => Value.noConfusion e) (fun z e => Value.noConfusion e) (by omega) (by omega) (by omega) (.bool z.s) (sv z.u) (sv z.t)); have YN := hide ((RY.out.step BW.out).grownT (only_any3 V3 gt (j * 4 + 1) (j * 4 + 2) (j * 4 + 3) (.bool z.s) (sv z.u) (sv z.t)) (fun g e => TS.1.ot g e)); have BN := hide (below_sets (Below.step B.out B.out.size BW.out) GT.out.1 (j * 4 + 1) (j * 4 + 2) (j * 4 + 3) (.bool z.s) (sv z.u) (sv z.t)); clear TS; go_simp; clear s1 s2 s3 f1 f2 f3; (try dsimp only); refine hK.out _ _ ?_; clear hK K
     try simp only [Act.put, s1, s2, s3, s4, s5, s6]
     refine Till.done (by kernel_rfl) ?_ _
     go_wp2_with fail
     exact ⟨⟨j + 1, os.set j ⟨y.c, z⟩, by omega, by go_num, BN, TN, hide (SK.out.next HX9.out HY.out (by rw [HZ.out, HP.out, HQ.out, YR.out])), PN, ZN, FN, RN, YN⟩, by simp [intOf]; omega⟩
    ·obtain rfl : j = n1 := by omega
     have KP := hide (show ∀ V, Below wr.heap.size wr V → (_ ∧ _ ∧ _) ∧ _ from fun V h => And.intro (And.intro (cell_keep q2 h) (And.intro (cell_keep q3 h) (cell_keep q4 h))) (FQ.out.step h).triP)
     have hd0 := hide (show rdist x0.x.r ≠ 0 from div_pos_ne (rdist_pos X0.out))
     have BW := hide (show Below wr.heap.size wr wr.drew from (Below.refl _ _).drew)
     go_wp2_with fail
     clear q0 q1 q2 q3 q4
     refine wp_till (S := fun W => (W.cell? ⟨g3, 2, none⟩ = some (.bool y1.s) ∧ W.cell? ⟨g3, 3, none⟩ = some (sv y1.u) ∧ W.cell? ⟨g3, 4, none⟩ = some (sv y1.t)) ∧ W.cell? ⟨g4, 0, none⟩ = some (.bool q.s) ∧ W.cell? ⟨g4, 1, none⟩ = some (sv q.u) ∧ W.cell? ⟨g4, 2, none⟩ = some (sv q.t)) 7 (by kernel_rfl) ?_ (fun hHeld => ?_)
     ·try dsimp only
      exact KP.out _ BW.out
     generalize wr.drew = V0 at *
     refine tkT 0 (v := ?_) hHeld ?_ ?_; rotate_left; (focus (intro w hSw; (try dsimp only at hSw); go_simp; (try with_reducible rfl)))
     try simp only [Act.put, s1, s2, s3, s4, s5, s6]
     refine tkT 1 (v := ?_) hHeld ?_ ?_; rotate_left; (focus (intro w hSw; (try dsimp only at hSw); go_simp; (try with_reducible rfl)))
     try simp only [Act.put, s1, s2, s3, s4, s5, s6]
     refine tkT 3 (v := ?_) hHeld ?_ ?_; rotate_left; (focus (intro w hSw; (try dsimp only at hSw); go_simp; (try with_reducible rfl)))
     try simp only [Act.put, s1, s2, s3, s4, s5, s6]
     refine r1T 2 (fun K hK => ?_)
     go_simp; go_at_call 39; refine Calls.mono (rof_f (L := N) (RY.out.ra.step BW.out) NN.out (by have := NZ.out; omega)) ?_; rintro e V1 ⟨p, rfl, hp, rp, bx⟩; have RP := hide rp; have HP := hide hp; clear rp hp; replace BW := hide (Below.step BW.out BW.out.size bx); clear bx; (try dsimp only); refine hK.out _ _ ?_ (fun hHeld => ?_); (focus ((try dsimp only); exact KP.out _ BW.out)); clear hK K
     try simp only [Act.put, s1, s2, s3, s4, s5, s6]
     try simp only [Act.put, s1, s2, s3, s4, s5, s6]
     refine r1T 4 (fun K hK => ?_)
     go_simp; go_at_call 43; refine Calls.mono (rqdiv_any (L := 5 * N) RP.out (RQ.out.step BW.out) (by rw [HQ.out]; exact hd0.out) (by have := NN.out; omega) (by have := NZ.out; omega)) ?_; rintro e V2 ⟨vd, rfl, rd, bx⟩; have RD := hide rd; clear rd RP; replace BW := hide (Below.step BW.out BW.out.size bx); clear bx; (try dsimp only); refine hK.out _ _ ?_ (fun hHeld => ?_); (focus ((try dsimp only); exact KP.out _ BW.out)); clear hK K
     try simp only [Act.put, s1, s2, s3, s4, s5, s6]
     try simp only [Act.put, s1, s2, s3, s4, s5, s6]
     refine r1T 5 (fun K hK => ?_)
     go_simp; go_at_call 42; refine Calls.mono (rfto_g RD.out (by have := NZ.out; omega)) ?_; rintro e V3 ⟨z, rfl, hz, rz, bx⟩; have HZ := hide hz; have RZ := hide ((rz.mono (B' := w.heap.size) (Nat.le_trans B.out.size BW.out.size)).more (M := 10 * N) (by omega)); clear rz hz RD; replace BW := hide (Below.step BW.out BW.out.size bx); clear bx; (try dsimp only); refine hK.out _ _ ?_ (fun hHeld => ?_); (focus ((try dsimp only); exact KP.out _ BW.out)); clear hK K
     try simp only [Act.put, s1, s2, s3, s4, s5, s6]
     refine tkT 6 (v := ?_) hHeld ?_ ?_; rotate_left; (focus (intro w hSw; (try dsimp only at hSw); go_simp; (try with_reducible rfl)))
     try simp only [Act.put, s1, s2, s3, s4, s5, s6]
     refine r1S 7 (fun K hK => ?_)
     obtain ⟨⟨s2, s3, s4⟩, -⟩ := KP.out _ BW.out; have PS := PQ.out.step BW.out; have f2 := PS.fz 2; have f3 := PS.fz 3; have f4 := PS.fz 4; have hne : w.heap.size + 1 ≠ g3 := (by have := G3.out; omega); have PN := hide (PS.putx z); have TN := hide ((T.out.step BW.out).grownK (only_putx V3 g3 (.bool z.s) (sv z.u) (sv z.t)) PS.kb); have RN := hide (RZ.out.grownK (only_putx V3 g3 (.bool z.s) (sv z.u) (sv z.t)) PS.kb); have ZN := hide ((ZQ.out.step BW.out).otherP3 hne 2 3 4 (.bool z.s) (sv z.u) (sv z.t)); have BN := hide (below_sets (Below.step B.out B.out.size BW.out) (show w.heap.size ≤ g3 by have := G3.out; omega) 2 3 4 (.bool z.s) (sv z.u) (sv z.t)); clear PS; go_simp; clear s2 s3 s4 f2 f3 f4; generalize (((V3.setCell ⟨g3, 2, none⟩ (.bool z.s)).setCell ⟨g3, 3, none⟩ (sv z.u)).setCell ⟨g3, 4, none⟩ (sv z.t)) = V4 at *; (try dsimp only); refine hK.out _ _ ?_; clear hK K
     try simp only [Act.put, s1, s2, s3, s4, s5, s6]
     refine Till.done (by kernel_rfl) ?_ _
     have ET := hide (SK.out.done (by have := N1.out; omega))
     obtain ⟨r0, er0⟩ := tms_head HX.out
     have hg : (1 / rdist x0.x.r) ≠ 0 := fun e => by have h9 := one_div_mul' hd0.out; rw [e, Rat.zero_mul] at h9; exact absurd h9 (by decide +kernel)
     have FT := hide (show Fm (tms os) by rw [ET.out]; exact fm_gmul hg FM.out)
     obtain ⟨⟨k0, k1, k2, k3, k4⟩, ⟨g0, g1, g2, g5, g6⟩, fin⟩ := kg_put (w0 := w) (k := ⟨k.s, (some ⟨gt, 0, none⟩, j, c1), os, z⟩) (L := 10 * N) ⟨TN.out, RN.out, FT.out⟩ ZN.out (by omega) BN.out
     dsimp only at fin
     have F9 := hide fin
     clear fin
     obtain ⟨q0, q1, q2, q3, q4⟩ := PN.out.all
     dsimp only at q0 q1 q2 q3 q4
     go_wp2_with fail
     exact bodyPost_ret (kret rfl _ _ _ #[.int .i64 k.s, .slice (some ⟨gt, 0, none⟩) j c1, .bool z.s, sv z.u, sv z.t] rfl rfl F9.out.1) rfl ⟨⟨k.s, (some ⟨gt, 0, none⟩, j, c1), os, z⟩, rfl, F9.out.2.1, rfl, (Scl.mk FM.out AL.out er0 (one_div_mul' hd0.out) FT.out (fun c hc => by show gsum (tms os) c = _; rw [ET.out, gsum_mul]) (by show z.r = _; rw [HZ.out, HP.out, HQ.out, ER.out, div_as])).1, (by show os.length ≤ _; rw [SK.out.1]; exact LN.out), F9.out.2.2⟩
end Go.Proofs.YtofmhfbbedalbaaGreat
