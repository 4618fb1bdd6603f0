
/-
 pool.Scale.
-/
import Derived.Test.YtofmhfbbedalbaaGreatPl2
import Derived.Test.YtofmhfbbedalbaaGreatKdrw
import Derived.Deep.DeepCutAuto


namespace Go.Proofs.YtofmhfbbedalbaaGreat
open Go.RowKit Go.Joins Go.Deep Go.Proofs.YtofmhfbbedalbaaGreat.Num
set_option linter.unusedVariables false
set_option linter.unusedSimpArgs false
set_option maxRecDepth 100000
theorem lr_nP {α : Type} {enc : α → List Value} {k : Nat} {W : World} {A : Option Addr} {n c : Nat} {d : List α} (h : Lr enc k W (.slice A n c) d) : n = d.length ∧ c ≤ maxLen := by
 obtain ⟨A', c', e, h1, h2, h3⟩ := h
 injection e with e1 e2 e3
 exact ⟨e2, by rw [e3]; exact h2⟩
theorem fm_sz {ts : List Tm} {L : Nat} (h : Fm ts) (h1 : 1 ≤ L) (hs : ∀ t ∈ ts, Sz Q t.2 L) (c : Int) : Sz Q (gsum ts c) L := by
 by_cases h0 : gsum ts c = 0
 ·rw [h0]
  exact sz_zero Q_two h1
 ·obtain ⟨t, ht, rfl⟩ := gsum_there h0
  rw [gsum_mem h ht]
  exact hs t ht
theorem Tg.fitP {W : World} {B : Nat} {v : Value} {d : List Tx} {L M : Nat} (h : Tg W B v d L) (hf : Fm (tms d)) (hs : ∀ c, 0 ≤ c → Sz Q (gsum (tms d) c) M) : Tg W B v d M :=
 ⟨h.1, fun x hx => (h.2 x hx).fit (by
  have hm : tm x ∈ tms d := List.mem_map.2 ⟨x, hx, rfl⟩
  have h3 := hs (tm x).1 (hf.2 _ hm).1
  rw [gsum_mem hf hm] at h3
  exact h3)⟩
theorem Tg.szP {W : World} {B : Nat} {v : Value} {d : List Tx} {L : Nat} (h : Tg W B v d L) (h1 : 1 ≤ L) : ∀ t ∈ tms d, Sz Q t.2 L := by
 intro t ht
 obtain ⟨x, hx, rfl⟩ := List.mem_map.1 ht
 exact (h.2 x hx).ra.sz h1
theorem one_div_mul {q : Rat} (h : q ≠ 0) : ((1 : Int) : Rat) / q * q = 1 := by
 have e : ((1 : Int) : Rat) = 1 := rfl
 rw [e]
 grind
theorem tms_head {d : List Tx} {x : Tx} (h : d[0]? = some x) : ∃ r, tms d = (x.c, x.x.r) :: r := by
 cases d with
 | nil => simp at h
 | cons a r =>
  simp at h
  subst h
  exact ⟨tms r, rfl⟩
theorem Bq.othP {W : World} {g h : Nat} {s : Bool} {u t : Value} (z : Bq W h s u t) (hne : h ≠ g) (j : Nat) (a : Value) : Bq (W.setCell ⟨g, j, none⟩ a) h s u t := (Below.heap_setCell _ _ a h hne).trans z
theorem Bq.triP {W : World} {g : Nat} {s : Bool} {u t : Value} (h : Bq W g s u t) : W.cell? ⟨g, 0, none⟩ = some (.bool s) ∧ W.cell? ⟨g, 1, none⟩ = some u ∧ W.cell? ⟨g, 2, none⟩ = some t := ⟨h.all.1, h.all.2.1, h.all.2.2.1⟩
def ScRet (w : World) (k : Kx) (M : Nat) (e : Ending) (w' : World) : Prop :=
 ∃ k' : Kx, e = .returned (kx k') ∧ Kg w' w.heap.size k' M ∧ k'.s = k.s ∧ Scl (tms k.d) k.x.r (tms k'.d) k'.x.r ∧ k'.d.length ≤ k.d.length ∧ Below w.heap.size w w'
def Sst (W0 : World) (q : Rat) (N : Nat) (a b c : Option Rx) (g : Option Nat) (V : World) : Prop :=
 Below W0.heap.size W0 V ∧ (∀ x, a = some x → Ra V (rx x) ((1 : Int) : Rat) N) ∧ (∀ x, b = some x → Ra V (rx x) q N) ∧ (∀ x, c = some x → x.r = ((1 : Int) : Rat) / q ∧ Rc V (rx x) x.r (2 * N)) ∧ ∀ i, g = some i → W0.heap.size ≤ i ∧ Rb V i
theorem Sst.start (W : World) (q : Rat) (N : Nat) : Sst W q N none none none none W.drew := ⟨(Below.refl _ _).drew, (fun x e => by cases e), (fun x e => by cases e), (fun x e => by cases e), fun i e => by cases e⟩
section
variable {W0 V V' : World} {q : Rat} {N : Nat} {a b c : Option Rx} {g : Option Nat}
theorem Sst.step (h : Sst W0 q N a b c g V) (bx : Below V.heap.size V V') : Sst W0 q N a b c g V' :=
 ⟨Below.step h.1 h.1.size bx, fun x e => (h.2.1 x e).step bx, fun x e => (h.2.2.1 x e).step bx, fun x e => ⟨(h.2.2.2.1 x e).1, (h.2.2.2.1 x e).2.step bx⟩, fun i e => ⟨(h.2.2.2.2 i e).1, (h.2.2.2.2 i e).2.step bx⟩⟩
theorem Sst.al (h : Sst W0 q N a b c none V) : Sst W0 q N a b c (some V.heap.size) (V.alloc rblk) := by
 have k := h.step (alloc_below V rblk)
 exact ⟨k.1, k.2.1, k.2.2.1, k.2.2.2.1, fun i e => by injection e with e; subst e; exact ⟨h.1.size, Rb.new V⟩⟩
theorem Sst.wh (h : Sst W0 q N none b c g V) (bx : Below V.heap.size V V') {x : Rx} (hx : x.r = ((1 : Int) : Rat)) (rc : Rc V' (rx x) x.r 1) (h1 : 1 ≤ N) : Sst W0 q N (some x) b c g V' := by
 have k := h.step bx
 exact ⟨k.1, fun y e => by injection e with e; subst e; rw [← hx]; exact rc.ra.more' h1, k.2.2⟩
theorem Sst.di (h : Sst W0 q N a none c g V) (bx : Below V.heap.size V V') {x : Rx} (ra : Ra V' (rx x) q N) : Sst W0 q N a (some x) c g V' := by
 have k := h.step bx
 exact ⟨k.1, k.2.1, fun y e => by injection e with e; subst e; exact ra, k.2.2.2⟩
theorem Sst.dv (h : Sst W0 q N a b none g V) (bx : Below V.heap.size V V') {x : Rx} (hx : x.r = ((1 : Int) : Rat) / q) (rc : Rc V' (rx x) x.r (2 * N)) : Sst W0 q N a b (some x) g V' := by
 have k := h.step bx
 exact ⟨k.1, k.2.1, k.2.2.1, fun y e => by injection e with e; subst e; exact ⟨hx, rc⟩, k.2.2.2.2⟩
end
def SEnd (W0 : World) (q : Rat) (N : Nat) (s : Value) (V : World) : Prop := ∃ x g, s = .pointer (some ⟨g, 0, none⟩) ∧ x.r = ((1 : Int) : Rat) / q ∧ Rc V (rx x) x.r (2 * N) ∧ W0.heap.size ≤ g ∧ Bq V g x.s (sv x.u) (sv x.t) ∧ Below W0.heap.size W0 V
theorem SEnd.below {W0 V : World} {q : Rat} {N : Nat} {s : Value} (h : SEnd W0 q N s V) : Below W0.heap.size W0 V := by
 obtain ⟨x, g, -, -, -, -, -, h⟩ := h
 exact h
theorem Sst.fin {W0 V : World} {q : Rat} {N g : Nat} {a b : Option Rx} {x : Rx} (h : Sst W0 q N a b (some x) (some g) V) :
  ((V.cell? ⟨g, 0, none⟩ = some (.bool false) ∧ V.cell? ⟨g, 1, none⟩ = some (.slice none 0 0) ∧ V.cell? ⟨g, 2, none⟩ = some (.slice none 0 0)) ∧ V.frozen? ⟨g, 0, none⟩ = false ∧ V.frozen? ⟨g, 1, none⟩ = false ∧ V.frozen? ⟨g, 2, none⟩ = false) ∧
  SEnd W0 q N (.pointer (some ⟨g, 0, none⟩)) (((V.setCell ⟨g, 0, none⟩ (.bool x.s)).setCell ⟨g, 1, none⟩ (sv x.u)).setCell ⟨g, 2, none⟩ (sv x.t)) := by
 obtain ⟨h1, h2⟩ := h.2.2.2.2 g rfl
 obtain ⟨k1, k2⟩ := h.2.2.2.1 x rfl
 exact ⟨⟨⟨h2.c0, h2.c1, h2.c2⟩, h2.fz 0, h2.fz 1, h2.fz 2⟩, x, g, rfl, k1, k2.grownU (only_put3 V g _ _ _) h2.nu, h1, h2.put _ _ _, below_put3 h.1 h1 _ _ _⟩
set_option maxHeartbeats 16000000 in
theorem pscale_g {w : World} {k : Kx} {L N : Nat} (hk : Kv w k L) (hn : k.d.length ≤ 1000) (h1 : 1 ≤ L) (hN : k.d.length * (L + 1) + 1 + L ≤ N) (hN2 : N ≤ 200000) :
  Calls Tryz.prog 8 #[kx k] w (ScRet w k (3 * N)) := by
 have b2 : Below w.heap.size w ((w.alloc (kbox k)).alloc kblk) := ((Below.refl _ _).alloc (Nat.le_refl _) _).alloc (by simp) _
 have Z := hide (show Kz ((w.alloc (kbox k)).alloc kblk) (w.heap.size + 1) by
  have h := Kz.new (w.alloc (kbox k))
  have h2 : Kz ((w.alloc (kbox k)).alloc kblk) (w.heap.size + 1) := by simpa using h
  exact h2)
 have P := hide (show Kq ((w.alloc (kbox k)).alloc kblk) w.heap.size k from (Kq.new w k).step ((Below.refl _ _).alloc (Nat.le_refl _) kblk))
 have HK := hide (hk.step b2)
 have B := hide b2
 have hg0 : w.heap.size + 1 ≠ w.heap.size := by omega
 clear hk b2
 obtain ⟨p0, p1, p2, p3, p4⟩ := P.out.all
 go_enter Tryz.func8, Tryz.ntmps8
 go_wp2_with fail
 generalize ((w.alloc (kbox k)).alloc kblk) = w0 at *
 refine (kform_g HK.out (by omega) h1 (by omega)).mono ?_
 rintro e w1 ⟨⟨s1, ⟨A1, n1, c1⟩, d1, y1⟩, rfl, kg, es, al, er, ln, bx⟩
 dsimp only at es al er ln
 subst es
 obtain ⟨hn1, hc1⟩ := lr_nP kg.1.tv.1
 dsimp only at hn1
 have AL := hide al
 have ER := hide er
 have LN := hide ln
 have N1 := hide hn1
 have NN := hide (show 1 ≤ N by omega)
 have KG := hide (show Kg (((((w1.setCell ⟨w.heap.size, 0, none⟩ (.int .i64 k.s)).setCell ⟨w.heap.size, 1, none⟩ (.slice A1 n1 c1)).setCell ⟨w.heap.size, 2, none⟩ (.bool y1.s)).setCell ⟨w.heap.size, 3, none⟩ (sv y1.u)).setCell ⟨w.heap.size, 4, none⟩ (sv y1.t)) w.heap.size ⟨k.s, (A1, n1, c1), d1, y1⟩ N from
  (show Kg w1 w.heap.size ⟨k.s, (A1, n1, c1), d1, y1⟩ N from ⟨((kg.mono (B' := w.heap.size) B.out.size).1).more (by omega), ((kg.mono (B' := w.heap.size) B.out.size).2.1).more (by omega), kg.2.2⟩).grownK (only_put5 w1 w.heap.size _ _ _ _ _) (P.out.step bx).kb)
 have PQ := hide (show Kq (((((w1.setCell ⟨w.heap.size, 0, none⟩ (.int .i64 k.s)).setCell ⟨w.heap.size, 1, none⟩ (.slice A1 n1 c1)).setCell ⟨w.heap.size, 2, none⟩ (.bool y1.s)).setCell ⟨w.heap.size, 3, none⟩ (sv y1.u)).setCell ⟨w.heap.size, 4, none⟩ (sv y1.t)) w.heap.size ⟨k.s, (A1, n1, c1), d1, y1⟩ from put5_heap (P.out.step bx) rfl _ _ _ _ _)
 have ZQ := hide ((((((Z.out.step bx).other hg0 0 (.int .i64 k.s)).other hg0 1 (.slice A1 n1 c1)).other hg0 2 (.bool y1.s)).other hg0 3 (sv y1.u)).other hg0 4 (sv y1.t))
 have B2 := hide (below_put5 (Below.step B.out B.out.size bx) (Nat.le_refl w.heap.size) (.int .i64 k.s) (.slice A1 n1 c1) (.bool y1.s) (sv y1.u) (sv y1.t))
 have P1 := P.out.step bx
 have f0 := P1.fz 0
 have f1 := P1.fz 1
 have f2 := P1.fz 2
 have f3 := P1.fz 3
 have f4 := P1.fz 4
 clear p0 p1 p2 p3 p4
 obtain ⟨p0, p1, p2, p3, p4⟩ := P1.all
 obtain ⟨q0, q1, q2, q3, q4⟩ := PQ.out.all
 dsimp only at q0 q1 q2 q3 q4
 clear kg al er ln bx hn1 P1 P Z B
 by_cases h0 : n1 = 0
 ·have t1 : ((n1 : Int) == 0) = true := by rw [h0]; rfl
  have H0 := hide h0
  obtain ⟨⟨k0, k1, k2, k3, k4⟩, ⟨g0, g1, g2, g3, g4⟩, fin⟩ := kg_put (w0 := w) (k := ⟨k.s, (A1, n1, c1), d1, y1⟩) KG.out ZQ.out (by omega) B2.out
  dsimp only at fin
  have F9 := hide fin
  clear fin h0
  go_wp2_with fail
  refine bodyPost_ret (kret rfl _ _ _ #[.int .i64 k.s, .slice A1 n1 c1, .bool y1.s, sv y1.u, sv y1.t] rfl rfl F9.out.1) rfl ⟨⟨k.s, (A1, n1, c1), d1, y1⟩, rfl, ⟨F9.out.2.1.1.more (by omega), F9.out.2.1.2.1.more (by omega), F9.out.2.1.2.2⟩, rfl, Scl.mk0 KG.out.2.2 AL.out ?_ ER.out, LN.out, F9.out.2.2⟩
  have e1 : d1.length = 0 := by have := H0.out; have := N1.out; omega
  rw [List.length_eq_zero_iff.1 e1]
  rfl
 ·have t1 : ((n1 : Int) == 0) = false := by rw [beq_eq_false_iff_ne]; omega
  have l1 : (0 : Int) < (n1 : Int) := by omega
  have l2 : 0 < n1 := by omega
  obtain ⟨x0, hx0⟩ := len_of (d := d1) (k := 0) (by have := N1.out; omega)
  have HX := hide hx0
  obtain ⟨gt, cap, cur, eA, hB, hlt, hh, -⟩ : ∃ gt cap cur, sv (A1, n1, c1) = .slice (some ⟨gt, 0, none⟩) d1.length cap ∧ w.heap.size ≤ gt ∧ _ ∧ _ ∧ _ := by
   rcases KG.out.1.1.form with ⟨e, h⟩ | h
   ·subst h
    simp at hx0
   ·exact h
  injection eA with eA eB eC
  subst eA
  obtain ⟨u0, u1, u2, u3⟩ := KG.out.1.1.cells (i := 0) hx0
  simp only [Nat.zero_mul, Nat.zero_add] at u0 u1 u2 u3
  have X0 := hide (show x0.x.r ≠ 0 from (KG.out.2.2.2 (tm x0) (List.mem_map.2 ⟨x0, List.mem_of_getElem? hx0, rfl⟩)).2)
  have RX := hide ((KG.out.1.2 x0 (List.mem_of_getElem? hx0)).ra)
  clear h0 hx0 hB hlt hh eB eC
  go_wp2_with fail
  clear p0 p1 p2 p3 p4 f0 f1 f2 f3 f4
  generalize (((((w1.setCell ⟨w.heap.size, 0, none⟩ (.int .i64 k.s)).setCell ⟨w.heap.size, 1, none⟩ (.slice (some ⟨gt, 0, none⟩) n1 c1)).setCell ⟨w.heap.size, 2, none⟩ (.bool y1.s)).setCell ⟨w.heap.size, 3, none⟩ (sv y1.u)).setCell ⟨w.heap.size, 4, none⟩ (sv y1.t)) = w2 at *
  have KP := hide (show ∀ V, Below w2.heap.size w2 V → _ ∧ _ ∧ _ ∧ _ from fun V h => And.intro (cell_keep q1 h) (And.intro (cell_keep u1 h) (And.intro (cell_keep u2 h) (cell_keep u3 h))))
  have hd0 : rdist x0.x.r ≠ 0 := by have := rdist_pos X0.out; grind
  have HD := hide hd0
  have NZ := hide hN2
  clear q0 q1 q2 q3 q4 u0 u1 u2 u3 hd0
  go_cut [3, 4, 12] from 13 to 22 (fun s s4 s12 wx => SEnd w2 (rdist x0.x.r) N s wx)
  case first =>
   have st := hide (Sst.start w2 (rdist x0.x.r) N)
   refine wp_region_held_drew (S := fun W => W.cell? ⟨w.heap.size, 1, none⟩ = some (.slice (some ⟨gt, 0, none⟩) n1 c1) ∧ W.cell? ⟨gt, 1, none⟩ = some (.bool x0.x.s) ∧ W.cell? ⟨gt, 2, none⟩ = some (sv x0.x.u) ∧ W.cell? ⟨gt, 3, none⟩ = some (sv x0.x.t)) (by kernel_rfl) ?_ (fun hHeld => ?_)
   ·try dsimp only
    exact KP.out _ st.out.1
   generalize w2.drew = V0 at *
   refine tk 1 (v := ?_) hHeld ?_ ?_; rotate_left; (focus (intro w hSw; (try dsimp only at hSw); go_simp; (try with_reducible rfl)))
   try simp only [Act.put, s1, s2, s3, s4, s5, s6]
   refine tk 2 (v := ?_) hHeld ?_ ?_; rotate_left; (focus (intro w hSw; (try dsimp only at hSw); go_simp; (try with_reducible rfl)))
   try simp only [Act.put, s1, s2, s3, s4, s5, s6]
   refine tk 3 (v := ?_) hHeld ?_ ?_; rotate_left; (focus (intro w hSw; (try dsimp only at hSw); go_simp; (try with_reducible rfl)))
   try simp only [Act.put, s1, s2, s3, s4, s5, s6]
   refine tk 4 (v := ?_) hHeld ?_ ?_; rotate_left; (focus (intro w hSw; (try dsimp only at hSw); go_simp; (try with_reducible rfl)))
   try simp only [Act.put, s1, s2, s3, s4, s5, s6]
   refine tk 5 (v := ?_) hHeld ?_ ?_; rotate_left; (focus (intro w hSw; (try dsimp only at hSw); go_simp; (try with_reducible rfl)))
   try simp only [Act.put, s1, s2, s3, s4, s5, s6]
   refine r2 0 11 (fun K hK => ?_) (fun K hK => ?_)
   ·go_simp; go_at_call 31; refine Calls.mono (whole_g _ 1 (by omega) (by omega)) ?_; rintro e V1 ⟨xa, rfl, hx, rc, bx⟩; replace st := hide (st.out.wh bx hx rc NN.out); clear hx rc bx; (try dsimp only); refine hK.out _ _ ?_ (fun hHeld => ?_); (focus ((try dsimp only); exact KP.out _ st.out.1)); clear hK K
    try simp only [Act.put, s1, s2, s3, s4, s5, s6]
    try simp only [Act.put, s1, s2, s3, s4, s5, s6]
    refine r2 6 11 (fun K hK => ?_) (fun K hK => ?_)
    ·go_simp; go_at_call 32; refine Calls.mono (pdist_c (x := x0.x) (L := N) (RX.out.step st.out.1) NN.out (by have := NZ.out; omega)) ?_; rintro e V2 ⟨xb, rfl, ra, bx⟩; replace st := hide (st.out.di bx ra); clear ra bx; (try dsimp only); refine hK.out _ _ ?_ (fun hHeld => ?_); (focus ((try dsimp only); exact KP.out _ st.out.1)); clear hK K
     try simp only [Act.put, s1, s2, s3, s4, s5, s6]
     try simp only [Act.put, s1, s2, s3, s4, s5, s6]
     refine r2 7 11 (fun K hK => ?_) (fun K hK => ?_)
     ·go_simp; go_at_call 30; refine Calls.mono (div_x (L := N) (st.out.2.1 _ rfl) (st.out.2.2.1 _ rfl) HD.out NN.out (by have := NZ.out; omega)) ?_; rintro e V3 ⟨z, rfl, hz, rz, bx⟩; replace st := hide (st.out.dv bx hz rz); clear hz rz bx; (try dsimp only); refine hK.out _ _ ?_ (fun hHeld => ?_); (focus ((try dsimp only); exact KP.out _ st.out.1)); clear hK K
      try simp only [Act.put, s1, s2, s3, s4, s5, s6]
      refine tp 8 hHeld ?_
      try simp only [Act.put, s1, s2, s3, s4, s5, s6]
      refine tp 9 hHeld ?_
      try simp only [Act.put, s1, s2, s3, s4, s5, s6]
      refine tp 10 hHeld ?_
      try simp only [Act.put, s1, s2, s3, s4, s5, s6]
      refine r1 11 (fun K hK => ?_)
      go_simp; replace st := hide st.out.al; generalize (V3.alloc rblk) = V4 at *; generalize V3.heap.size = g7 at *; (try dsimp only); refine hK.out _ _ ?_ (fun hHeld => ?_); (focus ((try dsimp only); exact KP.out _ st.out.1)); clear hK K
      try simp only [Act.put, s1, s2, s3, s4, s5, s6]
      try simp only [Act.put, s1, s2, s3, s4, s5, s6]
      refine r1 12 (fun K hK => ?_)
      obtain ⟨⟨⟨k0, k1, k2⟩, f0, f1, f2⟩, fin⟩ := st.out.fin; have FN := hide fin; clear fin; go_simp; clear k0 k1 k2 f0 f1 f2 st; have FB := hide FN.out.below; generalize (((V4.setCell ⟨g7, 0, none⟩ (.bool z.s)).setCell ⟨g7, 1, none⟩ (sv z.u)).setCell ⟨g7, 2, none⟩ (sv z.t)) = V5 at *; (try dsimp only); refine hK.out _ _ ?_ (fun hHeld => ?_); (focus ((try dsimp only); exact KP.out _ FB.out)); clear hK K
      try simp only [Act.put, s1, s2, s3, s4, s5, s6]
      refine tp 13 hHeld ?_
      try simp only [Act.put, s1, s2, s3, s4, s5, s6]
      refine wpAnyH_done (by kernel_rfl) ?_ _
      go_wp2_with fail; go_meet; exact FN.out
     ·go_simp; replace st := hide st.out.al; generalize (V2.alloc rblk) = V3 at *; generalize V2.heap.size = g7 at *; (try dsimp only); refine hK.out _ _ ?_ (fun hHeld => ?_); (focus ((try dsimp only); exact KP.out _ st.out.1)); clear hK K
      try simp only [Act.put, s1, s2, s3, s4, s5, s6]
      try simp only [Act.put, s1, s2, s3, s4, s5, s6]
      refine r1 7 (fun K hK => ?_)
      go_simp; go_at_call 30; refine Calls.mono (div_x (L := N) (st.out.2.1 _ rfl) (st.out.2.2.1 _ rfl) HD.out NN.out (by have := NZ.out; omega)) ?_; rintro e V4 ⟨z, rfl, hz, rz, bx⟩; replace st := hide (st.out.dv bx hz rz); clear hz rz bx; (try dsimp only); refine hK.out _ _ ?_ (fun hHeld => ?_); (focus ((try dsimp only); exact KP.out _ st.out.1)); clear hK K
      try simp only [Act.put, s1, s2, s3, s4, s5, s6]
      refine tp 8 hHeld ?_
      try simp only [Act.put, s1, s2, s3, s4, s5, s6]
      refine tp 9 hHeld ?_
      try simp only [Act.put, s1, s2, s3, s4, s5, s6]
      refine tp 10 hHeld ?_
      try simp only [Act.put, s1, s2, s3, s4, s5, s6]
      refine r1 12 (fun K hK => ?_)
      obtain ⟨⟨⟨k0, k1, k2⟩, f0, f1, f2⟩, fin⟩ := st.out.fin; have FN := hide fin; clear fin; go_simp; clear k0 k1 k2 f0 f1 f2 st; have FB := hide FN.out.below; generalize (((V4.setCell ⟨g7, 0, none⟩ (.bool z.s)).setCell ⟨g7, 1, none⟩ (sv z.u)).setCell ⟨g7, 2, none⟩ (sv z.t)) = V5 at *; (try dsimp only); refine hK.out _ _ ?_ (fun hHeld => ?_); (focus ((try dsimp only); exact KP.out _ FB.out)); clear hK K
      try simp only [Act.put, s1, s2, s3, s4, s5, s6]
      refine tp 13 hHeld ?_
      try simp only [Act.put, s1, s2, s3, s4, s5, s6]
      refine wpAnyH_done (by kernel_rfl) ?_ _
      go_wp2_with fail; go_meet; exact FN.out
    ·go_simp; replace st := hide st.out.al; generalize (V1.alloc rblk) = V2 at *; generalize V1.heap.size = g7 at *; (try dsimp only); refine hK.out _ _ ?_ (fun hHeld => ?_); (focus ((try dsimp only); exact KP.out _ st.out.1)); clear hK K
     try simp only [Act.put, s1, s2, s3, s4, s5, s6]
     try simp only [Act.put, s1, s2, s3, s4, s5, s6]
     refine r1 6 (fun K hK => ?_)
     go_simp; go_at_call 32; refine Calls.mono (pdist_c (x := x0.x) (L := N) (RX.out.step st.out.1) NN.out (by have := NZ.out; omega)) ?_; rintro e V3 ⟨xb, rfl, ra, bx⟩; replace st := hide (st.out.di bx ra); clear ra bx; (try dsimp only); refine hK.out _ _ ?_ (fun hHeld => ?_); (focus ((try dsimp only); exact KP.out _ st.out.1)); clear hK K
     try simp only [Act.put, s1, s2, s3, s4, s5, s6]
     try simp only [Act.put, s1, s2, s3, s4, s5, s6]
     refine r1 7 (fun K hK => ?_)
     go_simp; go_at_call 30; refine Calls.mono (div_x (L := N) (st.out.2.1 _ rfl) (st.out.2.2.1 _ rfl) HD.out NN.out (by have := NZ.out; omega)) ?_; rintro e V4 ⟨z, rfl, hz, rz, bx⟩; replace st := hide (st.out.dv bx hz rz); clear hz rz bx; (try dsimp only); refine hK.out _ _ ?_ (fun hHeld => ?_); (focus ((try dsimp only); exact KP.out _ st.out.1)); clear hK K
     try simp only [Act.put, s1, s2, s3, s4, s5, s6]
     refine tp 8 hHeld ?_
     try simp only [Act.put, s1, s2, s3, s4, s5, s6]
     refine tp 9 hHeld ?_
     try simp only [Act.put, s1, s2, s3, s4, s5, s6]
     refine tp 10 hHeld ?_
     try simp only [Act.put, s1, s2, s3, s4, s5, s6]
     refine r1 12 (fun K hK => ?_)
     obtain ⟨⟨⟨k0, k1, k2⟩, f0, f1, f2⟩, fin⟩ := st.out.fin; have FN := hide fin; clear fin; go_simp; clear k0 k1 k2 f0 f1 f2 st; have FB := hide FN.out.below; generalize (((V4.setCell ⟨g7, 0, none⟩ (.bool z.s)).setCell ⟨g7, 1, none⟩ (sv z.u)).setCell ⟨g7, 2, none⟩ (sv z.t)) = V5 at *; (try dsimp only); refine hK.out _ _ ?_ (fun hHeld => ?_); (focus ((try dsimp only); exact KP.out _ FB.out)); clear hK K
     try simp only [Act.put, s1, s2, s3, s4, s5, s6]
     refine tp 13 hHeld ?_
     try simp only [Act.put, s1, s2, s3, s4, s5, s6]
     refine wpAnyH_done (by kernel_rfl) ?_ _
     go_wp2_with fail; go_meet; exact FN.out
   ·go_simp; replace st := hide st.out.al; generalize (V0.alloc rblk) = V1 at *; generalize V0.heap.size = g7 at *; (try dsimp only); refine hK.out _ _ ?_ (fun hHeld => ?_); (focus ((try dsimp only); exact KP.out _ st.out.1)); clear hK K
    try simp only [Act.put, s1, s2, s3, s4, s5, s6]
    try simp only [Act.put, s1, s2, s3, s4, s5, s6]
    refine r1 0 (fun K hK => ?_)
    go_simp; go_at_call 31; refine Calls.mono (whole_g _ 1 (by omega) (by omega)) ?_; rintro e V2 ⟨xa, rfl, hx, rc, bx⟩; replace st := hide (st.out.wh bx hx rc NN.out); clear hx rc bx; (try dsimp only); refine hK.out _ _ ?_ (fun hHeld => ?_); (focus ((try dsimp only); exact KP.out _ st.out.1)); clear hK K
    try simp only [Act.put, s1, s2, s3, s4, s5, s6]
    try simp only [Act.put, s1, s2, s3, s4, s5, s6]
    refine r1 6 (fun K hK => ?_)
    go_simp; go_at_call 32; refine Calls.mono (pdist_c (x := x0.x) (L := N) (RX.out.step st.out.1) NN.out (by have := NZ.out; omega)) ?_; rintro e V3 ⟨xb, rfl, ra, bx⟩; replace st := hide (st.out.di bx ra); clear ra bx; (try dsimp only); refine hK.out _ _ ?_ (fun hHeld => ?_); (focus ((try dsimp only); exact KP.out _ st.out.1)); clear hK K
    try simp only [Act.put, s1, s2, s3, s4, s5, s6]
    try simp only [Act.put, s1, s2, s3, s4, s5, s6]
    refine r1 7 (fun K hK => ?_)
    go_simp; go_at_call 30; refine Calls.mono (div_x (L := N) (st.out.2.1 _ rfl) (st.out.2.2.1 _ rfl) HD.out NN.out (by have := NZ.out; omega)) ?_; rintro e V4 ⟨z, rfl, hz, rz, bx⟩; replace st := hide (st.out.dv bx hz rz); clear hz rz bx; (try dsimp only); refine hK.out _ _ ?_ (fun hHeld => ?_); (focus ((try dsimp only); exact KP.out _ st.out.1)); clear hK K
    try simp only [Act.put, s1, s2, s3, s4, s5, s6]
    refine tp 8 hHeld ?_
    try simp only [Act.put, s1, s2, s3, s4, s5, s6]
    refine tp 9 hHeld ?_
    try simp only [Act.put, s1, s2, s3, s4, s5, s6]
    refine tp 10 hHeld ?_
    try simp only [Act.put, s1, s2, s3, s4, s5, s6]
    refine r1 12 (fun K hK => ?_)
    obtain ⟨⟨⟨k0, k1, k2⟩, f0, f1, f2⟩, fin⟩ := st.out.fin; have FN := hide fin; clear fin; go_simp; clear k0 k1 k2 f0 f1 f2 st; have FB := hide FN.out.below; generalize (((V4.setCell ⟨g7, 0, none⟩ (.bool z.s)).setCell ⟨g7, 1, none⟩ (sv z.u)).setCell ⟨g7, 2, none⟩ (sv z.t)) = V5 at *; (try dsimp only); refine hK.out _ _ ?_ (fun hHeld => ?_); (focus ((try dsimp only); exact KP.out _ FB.out)); clear hK K
    try simp only [Act.put, s1, s2, s3, s4, s5, s6]
    refine tp 13 hHeld ?_
    try simp only [Act.put, s1, s2, s3, s4, s5, s6]
    refine wpAnyH_done (by kernel_rfl) ?_ _
    go_wp2_with fail; go_meet; exact FN.out
  case rest =>
   obtain ⟨z, gb, rfl, hz, rz, hgb, bq, bx⟩ := hcut
   have HZ := hide hz
   have zl := ZQ.out.lt
   have NB := hide (show gb ≠ w.heap.size + 1 by omega)
   have RZ := hide rz
   have BQ := hide bq
   replace KG := hide (KG.out.step bx)
   replace PQ := hide (PQ.out.step bx)
   replace ZQ := hide (ZQ.out.step bx)
   replace B2 := hide (Below.step B2.out B2.out.size bx)
   have hg1 : w.heap.size ≠ w.heap.size + 1 := by omega
   clear hz rz bq bx KP hgb zl
   have SZ := hide (show ∀ c, 0 ≤ c → Sz Q (z.r * gsum (tms d1) c) (3 * N) from fun c hc => by
    have := sz_mul (RZ.out.ra.sz (by have := NN.out; omega)) (fm_sz KG.out.2.2 NN.out (KG.out.1.szP NN.out) c)
    rwa [show 2 * N + N = 3 * N by omega] at this)
   have LD := hide (show d1.length ≤ 100000 by have := LN.out; omega)
   have QZ := hide (show z.r * rdist x0.x.r = 1 by rw [HZ.out]; exact one_div_mul HD.out)
   clear HZ HD t1 l1 l2 hn hN hN2
   go_wp2_with fail
   have bd := (Below.refl wc.heap.size wc).drew
   replace PQ := hide (PQ.out.step bd)
   replace BQ := hide (BQ.out.step bd)
   replace ZQ := hide (ZQ.out.step bd)
   replace RZ := hide (RZ.out.step bd)
   replace KG := hide (KG.out.step bd)
   replace B2 := hide (Below.step B2.out B2.out.size bd)
   clear bd
   go_region_held3 (fun W => (W.cell? ⟨w.heap.size, 0, none⟩ = some (.int .i64 k.s) ∧ W.cell? ⟨w.heap.size, 1, none⟩ = some (.slice (some ⟨gt, 0, none⟩) n1 c1) ∧ W.cell? ⟨w.heap.size, 2, none⟩ = some (.bool y1.s) ∧ W.cell? ⟨w.heap.size, 3, none⟩ = some (sv y1.u) ∧ W.cell? ⟨w.heap.size, 4, none⟩ = some (sv y1.t)) ∧ W.cell? ⟨gb, 0, none⟩ = some (.bool z.s) ∧ W.cell? ⟨gb, 1, none⟩ = some (sv z.u) ∧ W.cell? ⟨gb, 2, none⟩ = some (sv z.t))
    (first | with_reducible exact And.intro PQ.out.all BQ.out.triP | with_reducible exact And.intro (((((PQ.out.other hg1 _ _).other hg1 _ _).other hg1 _ _).other hg1 _ _).other hg1 _ _).all (((((BQ.out.othP NB.out _ _).othP NB.out _ _).othP NB.out _ _).othP NB.out _ _).othP NB.out _ _).triP)
    (first
     | (go_at_call 33; refine Calls.mono (scale_t (K := 2 * N) (L := N) RZ.out.ra KG.out.1.tv LD.out NN.out (by have := NZ.out; omega) (by have := NN.out; omega) (by have := NZ.out; omega)) ?_; rintro e wx ⟨v5, d5, rfl, t5, f5, g5, l5, bx⟩; obtain ⟨A5, n5, c5, rfl⟩ := rv_sl t5.tv.1; have T5 := hide ((t5.mono (B' := w.heap.size) B2.out.size).fitP f5 (fun c hc => by rw [g5 c hc]; exact SZ.out c hc)); have F5 := hide f5; have G5 := hide g5; have L5 := hide l5; replace PQ := hide (PQ.out.step bx); replace BQ := hide (BQ.out.step bx); replace ZQ := hide (ZQ.out.step bx); replace RZ := hide (RZ.out.step bx); replace KG := hide (KG.out.step bx); replace B2 := hide (Below.step B2.out B2.out.size bx); clear t5 f5 g5 l5 bx)
     | (go_at_call 34; refine Calls.mono (mul_g (L := 2 * N) (M := N) RZ.out.ra KG.out.2.1.ra (by have := NN.out; omega) NN.out (by have := NZ.out; omega) (by have := NZ.out; omega)) ?_; rintro e wx ⟨y5, rfl, e5, r5, bx⟩; replace PQ := hide (PQ.out.step bx); replace BQ := hide (BQ.out.step bx); obtain ⟨⟨k0, k1, k2, k3, k4⟩, ⟨f0, f1, f2, f3, f4⟩, fin⟩ := kg_put (w0 := w) (k := ⟨k.s, (A5, n5, c5), d5, y5⟩) (L := 3 * N) ⟨T5.out.step bx, (r5.mono (B' := w.heap.size) B2.out.size).more (by omega), F5.out⟩ (ZQ.out.step bx) (by omega) (Below.step B2.out B2.out.size bx); dsimp only at fin; have F9 := hide fin; have E5 := hide e5; clear e5 r5 bx fin))
   all_goals
    go_wp2_with fail
    obtain ⟨r0, er0⟩ := tms_head HX.out
    exact bodyPost_ret (kret rfl _ _ _ #[.int .i64 k.s, .slice A5 n5 c5, .bool y5.s, sv y5.u, sv y5.t] rfl rfl F9.out.1) rfl ⟨⟨k.s, (A5, n5, c5), d5, y5⟩, rfl, F9.out.2.1, rfl, (Scl.mk KG.out.2.2 AL.out er0 QZ.out F5.out G5.out (by rw [E5.out, ER.out])).1, Nat.le_trans L5.out LN.out, F9.out.2.2⟩
end Go.Proofs.YtofmhfbbedalbaaGreat
