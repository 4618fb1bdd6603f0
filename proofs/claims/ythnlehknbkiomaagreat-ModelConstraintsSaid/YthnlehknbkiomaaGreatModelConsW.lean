
/-
 The walk of ModelConstraints: true.
-/
import Derived.Test.YthnlehknbkiomaaGreatBundleU
import Derived.Test.YthnlehknbkiomaaGreatBundleN
import Derived.Test.YthnlehknbkiomaaGreatVdot


namespace Go.Proofs.YthnlehknbkiomaaGreat
open Go.RowKit Go.Proofs.YthnlehknbkiomaaGreat.Num
set_option linter.unusedVariables false
set_option linter.unusedSimpArgs false
set_option maxRecDepth 100000
def Tb (b : Bool) (P : Prop) : Prop := b = true ↔ P
theorem ck_dot {k : Kx} {t : Cr} {f : List Rx} (hr : Crel k t) : dt (tms k.d) (xf f) = sm f.length (fun i => t.2.1 (i : Int) * xf f (i : Int)) := by
 rw [dt_sum _ f.length (xf f) (fun c hc => xf_out f c hc)]
 exact sm_congr (fun i hi => by
  have e : gt (tms k.d) (i : Int) = t.2.1 (i : Int) := by
   unfold gt
   rw [if_pos (by omega)]
   exact hr.2.2.1 _ (by omega)
  rw [e])
theorem ck_iff {k : Kx} {t : Cr} {f : List Rx} {z : Int} (hr : Crel k t) (hz : z = cmpR (dt (tms k.d) (xf f)) k.x.r) : Ckeep t f.length (xf f) ↔ (k.s = 2 ∨ ¬ 0 < z) ∧ (k.s = 1 ∨ ¬ z < 0) := by
 have e1 : dt (tms k.d) (xf f) ≤ k.x.r ↔ ¬ 0 < z := by
  rw [hz]
  have h : decide (cmpR (dt (tms k.d) (xf f)) k.x.r ≤ 0) = true ↔ dt (tms k.d) (xf f) ≤ k.x.r := cmp_le0
  rw [decide_eq_true_iff] at h
  rw [← h]
  omega
 have e2 : k.x.r ≤ dt (tms k.d) (xf f) ↔ ¬ z < 0 := by
  rw [hz]
  have h : 0 ≤ cmpR (dt (tms k.d) (xf f)) k.x.r ↔ k.x.r ≤ dt (tms k.d) (xf f) := cmp_ge0
  rw [← h]
  omega
 unfold Ckeep
 rw [← ck_dot hr, ← hr.1, ← hr.2.2.2, e1, e2]
 constructor
 ·rintro ⟨h1, h2⟩
  refine ⟨?_, ?_⟩
  ·by_cases h : k.s = 2
   ·exact .inl h
   ·exact .inr (h1 h)
  ·by_cases h : k.s = 1
   ·exact .inl h
   ·exact .inr (h2 h)
 ·rintro ⟨h1, h2⟩
  exact ⟨fun h => h1.resolve_left h, fun h => h2.resolve_left h⟩
theorem all_next {C : Cr → Prop} {cs : List Cr} {k : Nat} {t : Cr} {b b' : Bool} (h : b = true ↔ ∀ (j : Nat) u, j < k → cs[j]? = some u → C u) (ht : cs[k]? = some t) (hb : b' = true ↔ b = true ∧ C t) : b' = true ↔ ∀ (j : Nat) u, j < k + 1 → cs[j]? = some u → C u := by
 rw [hb, h]
 constructor
 ·rintro ⟨h1, h2⟩ j u hj hu
  by_cases e : j = k
  ·subst e
   rw [ht] at hu
   injection hu with hu
   subst hu
   exact h2
  ·exact h1 j u (by omega) hu
 ·intro hh
  exact ⟨fun j u hj hu => hh j u (by omega) hu, hh k t (by omega) ht⟩
theorem whl_next {C : Ux → Nat → Prop} {vs : List Ux} {k : Nat} {x : Ux} {b b' : Bool} {A : Prop} (h : b = true ↔ A ∧ ∀ (j : Nat) u, j < k → vs[j]? = some u → C u j) (ht : vs[k]? = some x) (hb : b' = true ↔ b = true ∧ C x k) : b' = true ↔ A ∧ ∀ (j : Nat) u, j < k + 1 → vs[j]? = some u → C u j := by
 rw [hb, h]
 constructor
 ·rintro ⟨⟨ha, h1⟩, h2⟩
  refine ⟨ha, fun j u hj hu => ?_⟩
  by_cases e : j = k
  ·subst e
   rw [ht] at hu
   injection hu with hu
   subst hu
   exact h2
  ·exact h1 j u (by omega) hu
 ·rintro ⟨ha, hh⟩
  exact ⟨⟨ha, fun j u hj hu => hh j u (by omega) hu⟩, hh k x (by omega) ht⟩
set_option maxHeartbeats 16000000 in
theorem mconsl_go (w : World) (p : Px) (v : Value) (f : List Rx) (hp : Pv w p 17592186043904) (hv : Fv w v f 17592186043904) :
  Calls Tryz.prog 4 #[px p, v] w fun e w' => e = .returned (.bool true) ∧ Below w.heap.size w w' := by
 obtain ⟨nm, ob, ⟨RA, rn, rc⟩, rows, ⟨VA, vn, vc⟩, vars⟩ := p
 obtain ⟨VA', vc', ev, -⟩ := id hp.2.1
 dsimp only at ev
 injection ev with e1 e2 e3
 subst e1 e2 e3
 obtain ⟨A6, c6, e6, hd1, hd2, hd3⟩ := id hv.1
 obtain ⟨n6, hlf⟩ : ∃ n6, n6 = f.length := ⟨_, rfl⟩
 rw [← hlf] at e6 hd1
 subst e6
 obtain ⟨n, hlen⟩ : ∃ n, n = vars.length := ⟨_, rfl⟩
 have HN := hide hlen
 have FL := hide hlf
 rw [← hlen] at hp ⊢
 have b2 := alloc_below w (.cells #[.string nm, .string ob, .slice RA rn rc, .slice VA n vc] 25)
 have PQ := hide (show Pq (w.alloc (.cells #[.string nm, .string ob, .slice RA rn rc, .slice VA n vc] 25)) w.heap.size ⟨nm, ob, (RA, rn, rc), rows, (VA, n, vc), vars⟩ from heap_alloc_new w _)
 have HP := hide (hp.step b2)
 have HF := hide (hv.step b2)
 have BW := hide b2
 unfold maxLen at hd2
 clear hp hv b2 hlen hlf hd3
 go_enter Tryz.func4, Tryz.ntmps4
 go_wp2_with fail
 generalize (w.alloc (.cells #[.string nm, .string ob, .slice RA rn rc, .slice VA n vc] 25)) = w0 at *
 refine (mspeaks_true w0).mono ?_
 rintro e w1 ⟨rfl, bx⟩
 replace PQ := hide (PQ.out.step bx)
 replace HP := hide (HP.out.step bx)
 replace HF := hide (HF.out.step bx)
 replace BW := hide (Below.step BW.out BW.out.size bx)
 clear bx
 obtain ⟨p0, p1, p2, p3⟩ := PQ.out.alls
 go_wp2_with fail
 refine (pgreat_c HP.out (by omega)).mono ?_
 rintro e w2 ⟨bx, o, rfl, ho⟩
 have HO := hide ho
 replace PQ := hide (PQ.out.step bx)
 replace HP := hide (HP.out.step bx)
 replace HF := hide (HF.out.step bx)
 replace BW := hide (Below.step BW.out BW.out.size bx)
 clear ho bx p0 p1 p2 p3
 obtain ⟨p0, p1, p2, p3⟩ := PQ.out.alls
 cases o
 case true =>
  go_wp2_with fail
  go_ret
  exact ⟨rfl, BW.out⟩
 have OK := hide (HO.out rfl)
 replace HP := hide (HP.out.tight OK.out)
 clear HO
 go_wp2_with fail
 refine (greatall_c HF.out (by omega)).mono ?_
 rintro e w3 ⟨bx, o, rfl, ho⟩
 have HO := hide ho
 replace PQ := hide (PQ.out.step bx)
 replace HP := hide (HP.out.step bx)
 replace HF := hide (HF.out.step bx)
 replace BW := hide (Below.step BW.out BW.out.size bx)
 clear ho bx p0 p1 p2 p3
 obtain ⟨p0, p1, p2, p3⟩ := PQ.out.alls
 cases o
 case true =>
  go_wp2_with fail
  go_ret
  exact ⟨rfl, BW.out⟩
 have FN := hide (show f.length ≤ 30 from (HO.out rfl).1)
 replace HF := hide (HF.out.tight (HO.out rfl).2)
 clear HO
 by_cases hnn : n6 = n
 case neg =>
  have t0 : ((n6 : Int) != (n : Int)) = true := by simp; omega
  go_wp2_with fail
  go_ret
  exact ⟨rfl, BW.out⟩
 subst hnn
 have t0 : ((n6 : Int) != (n6 : Int)) = false := by simp
 go_wp2_with fail
 refine (mconstraints_c HP.out OK.out.len).mono ?_
 rintro e w4 ⟨v', l, rfl, t6, cr6, ln6, bx⟩
 obtain ⟨A1, c1, e1, hk1, hk2, hk3⟩ := id (t6.1.rl ek_len)
 obtain ⟨m, hm⟩ : ∃ m, m = l.length := ⟨_, rfl⟩
 rw [← hm] at e1 hk1
 subst e1
 have HM := hide hm
 have KL := hide t6.kl
 have CRS := hide cr6
 have LN := hide ln6
 have LM := hide (show m ≤ 240 by
  rw [hm, cr6.len]
  unfold cprob
  rw [List.length_append]
  have h1 := crows_len vars.length rows rows.length
  have h2 := cvars_len vars vars.length
  have h3 := OK.out.1
  have h4 := OK.out.2.1
  dsimp only at h3 h4 ⊢
  omega)
 replace PQ := hide (PQ.out.step bx)
 replace HP := hide (HP.out.step bx)
 replace HF := hide (HF.out.step bx)
 replace BW := hide (Below.step BW.out BW.out.size bx)
 unfold maxLen at hk2
 clear t6 cr6 ln6 bx p0 p1 p2 p3 t0 hk3 hm
 go_wp2_with fail
 go_loopw [5, 30] (fun av iv wr => ∃ (k : Nat) (o : Bool), k ≤ m ∧ av = .bool o ∧ iv = .int .i64 (k : Int) ∧ Hid (Below w4.heap.size w4 wr) ∧ Hid (Tb o (∀ (j : Nat) u, j < k → (cprob ⟨nm, ob, (none, 0, 0), rows, (none, 0, 0), vars⟩)[j]? = some u → Ckeep u f.length (xf f)))) (fun _ iv _ => m - (intOf iv).toNat)
 case atStart => exact ⟨0, true, Nat.zero_le _, rfl, rfl, hide (Below.refl _ _), hide ⟨fun _ j u h => by omega, fun _ => rfl⟩⟩
 case round =>
  obtain ⟨k, o, hk, rfl, rfl, B, AL⟩ := hrel
  by_cases hlt : k < m
  ·obtain ⟨kk, hkk⟩ := len_of (d := l) (k := k) (by rw [← HM.out]; exact hlt)
   obtain ⟨t, ht⟩ := len_of (d := cprob ⟨nm, ob, (none, 0, 0), rows, (none, 0, 0), vars⟩) (k := k) (by
    have h : l.length = (cprob ⟨nm, ob, (none, 0, 0), rows, (none, 0, 0), vars⟩).length := CRS.out.len
    rw [← h, ← HM.out]; exact hlt)
   have HT := hide ht
   have CREL := hide (CRS.out.at_ hkk (show (cprob ⟨nm, ob, (RA, rn, rc), rows, (VA, n6, vc), vars⟩)[k]? = some t from ht))
   have KD := hide (LN.out kk (List.mem_of_getElem? hkk))
   have KV := hide (KL.out.2 kk (List.mem_of_getElem? hkk))
   obtain ⟨b, off, rfl, hb, hc⟩ := (KL.out.1.step B.out).get hkk
   have c0 := hc 0 _ rfl
   have c1' := hc 1 _ rfl
   have c2 := hc 2 _ rfl
   have c3 := hc 3 _ rfl
   have c4 := hc 4 _ rfl
   rw [Nat.add_zero] at c0
   have l0 : (0 : Int) ≤ (k : Int) := by omega
   have l1 : (k : Int) < (m : Int) := by omega
   have KQ := hide (Kq.new wr kk)
   have b8 := alloc_below wr (kbox kk)
   replace B := hide (Below.step B.out B.out.size b8)
   replace KV := hide (KV.out.step B.out)
   have HF4 := HF
   replace HF := hide (HF.out.step B.out)
   clear hc hb hkk ht b8
   go_wp2_with fail
   clear c0 c1' c2 c3 c4
   generalize (wr.alloc (kbox kk)) = w5 at *
   generalize wr.heap.size = gk at *
   have B3 := B
   have B := hide ((Below.refl w5.heap.size w5).drew)
   refine wp_region_held_drew (S := fun W => W.cell? ⟨gk, 1, none⟩ = some (sv kk.v) ∧ W.cell? ⟨gk, 2, none⟩ = some (.bool kk.x.s) ∧ W.cell? ⟨gk, 3, none⟩ = some (sv kk.x.u) ∧ W.cell? ⟨gk, 4, none⟩ = some (sv kk.x.t)) (by kernel_rfl) ?_ (fun hHeld => ?_)
   ·try dsimp only
    exact (KQ.out.step B.out).all.2
   generalize w5.drew = V0 at *
   refine tk 0 (v := ?_) hHeld ?_ ?_; rotate_left; (focus (intro w hSw; (try dsimp only at hSw); go_simp; (try with_reducible rfl)))
   try simp only [Act.put, s1, s2, s3, s4, s5, s6]
   refine tk 1 (v := ?_) hHeld ?_ ?_; rotate_left; (focus (intro w hSw; (try dsimp only at hSw); go_simp; (try with_reducible rfl)))
   try simp only [Act.put, s1, s2, s3, s4, s5, s6]
   refine tp 2 hHeld ?_
   try simp only [Act.put, s1, s2, s3, s4, s5, s6]
   refine tk 4 (v := ?_) hHeld ?_ ?_; rotate_left; (focus (intro w hSw; (try dsimp only at hSw); go_simp; (try with_reducible rfl)))
   try simp only [Act.put, s1, s2, s3, s4, s5, s6]
   refine tk 5 (v := ?_) hHeld ?_ ?_; rotate_left; (focus (intro w hSw; (try dsimp only at hSw); go_simp; (try with_reducible rfl)))
   try simp only [Act.put, s1, s2, s3, s4, s5, s6]
   refine r1 3 (fun K hK => ?_)
   go_simp; go_at_call 21; refine (vdot_f (L := 217) (K := 6) (KV.out.step B.out).1 (HF.out.step B.out) (by have := KD.out; omega) (by omega) (by omega) (by omega) (by omega) (by have := FN.out; omega) (by have := Nat.mul_le_mul KD.out (Nat.le_refl (5 * 217 + 1)); omega)).mono ?_; rintro e V1 ⟨qa, rfl, hq, rq, bx⟩; have RA := hide (rq.more (M := 2000000) (by have h1 := Nat.mul_le_mul KD.out (Nat.le_refl (5 * 217 + 1)); have h2 := Nat.mul_le_mul FN.out (show kk.d.length * (5 * 217 + 1) + 6 + 5 * 6 + 1 ≤ 32617 by omega); omega)); have EA := hide hq; replace B := hide (Below.step B.out B.out.size bx); clear bx; clear hq rq; (try dsimp only); refine hK.out _ _ ?_ (fun hHeld => ?_); (focus ((try dsimp only); exact (KQ.out.step B.out).all.2)); clear hK K
   try simp only [Act.put, s1, s2, s3, s4, s5, s6]
   refine r1 6 (fun K hK => ?_)
   go_simp; go_at_call 22; refine (rof_f (L := 217) (KV.out.step B.out).2 (by omega) (by omega)).mono ?_; rintro e V2 ⟨qb, rfl, hq, rq, bx⟩; have RB := hide (rq.more (M := 2000000) (by omega)); have EB := hide hq; replace RA := hide (RA.out.step bx); replace B := hide (Below.step B.out B.out.size bx); clear bx; clear hq rq; (try dsimp only); refine hK.out _ _ ?_ (fun hHeld => ?_); (focus ((try dsimp only); exact (KQ.out.step B.out).all.2)); clear hK K
   try simp only [Act.put, s1, s2, s3, s4, s5, s6]
   refine r1 7 (fun K hK => ?_)
   go_simp; go_at_call 20; refine (rqcmp_s RA.out RB.out (by omega) (by omega)).mono ?_; rintro e V3 ⟨rfl, bx⟩; replace B := hide (Below.step B.out B.out.size bx); clear bx; obtain ⟨z, hz⟩ : ∃ z, z = cmpR qa.r qb.r := ⟨_, rfl⟩; rw [← hz]; have CI := hide (ck_iff (z := z) (f := f) CREL.out (hz.trans (by rw [EA.out, EB.out]))); clear hz; (try dsimp only); refine hK.out _ _ ?_ (fun hHeld => ?_); (focus ((try dsimp only); exact (KQ.out.step B.out).all.2)); clear hK K
   try simp only [Act.put, s1, s2, s3, s4, s5, s6]
   refine tp 8 hHeld ?_
   try simp only [Act.put, s1, s2, s3, s4, s5, s6]
   refine wpAnyH_done (by kernel_rfl) ?_ _
   obtain ⟨q0, -⟩ := (KQ.out.step B.out).all
   replace B := hide (Below.step B3.out B3.out.size B.out)
   clear RA RB EA EB KQ KV B3
   cases o with
   | false =>
    (have AN := hide (show Tb false _ from all_next (b' := false) AL.out HT.out (by rw [CI.out]; simp )))
    go_wp2_with fail
    exact ⟨⟨k + 1, false, by omega, rfl, by go_num, B, AN⟩, by simp [intOf]; omega⟩
   | true =>
    by_cases h2 : kk.s = 2
    ·have t1 : (kk.s != 2) = false := by rw [h2]; rfl
     have t2 : (kk.s != 1) = true := by rw [h2]; rfl
     by_cases hz : z < 0
     ·have t3 : decide (z < 0) = true := decide_eq_true hz
      (have AN := hide (show Tb false _ from all_next (b' := false) AL.out HT.out (by rw [CI.out]; simp [h2, hz])))
      go_wp2_with fail
      exact ⟨⟨k + 1, false, by omega, rfl, by go_num, B, AN⟩, by simp [intOf]; omega⟩
     ·have t3 : decide (z < 0) = false := decide_eq_false hz
      (have AN := hide (show Tb true _ from all_next (b' := true) AL.out HT.out (by rw [CI.out]; simp [h2]; omega)))
      go_wp2_with fail
      exact ⟨⟨k + 1, true, by omega, rfl, by go_num, B, AN⟩, by simp [intOf]; omega⟩
    ·have t1 : (kk.s != 2) = true := bne_iff_ne.2 h2
     by_cases hz : 0 < z
     ·have t3 : decide (0 < z) = true := decide_eq_true hz
      (have AN := hide (show Tb false _ from all_next (b' := false) AL.out HT.out (by rw [CI.out]; simp [h2]; omega)))
      go_wp2_with fail
      exact ⟨⟨k + 1, false, by omega, rfl, by go_num, B, AN⟩, by simp [intOf]; omega⟩
     ·have t3 : decide (0 < z) = false := decide_eq_false hz
      by_cases h1 : kk.s = 1
      ·have t4 : (kk.s != 1) = false := by rw [h1]; rfl
       (have AN := hide (show Tb true _ from all_next (b' := true) AL.out HT.out (by rw [CI.out]; simp [h1]; omega)))
       go_wp2_with fail
       exact ⟨⟨k + 1, true, by omega, rfl, by go_num, B, AN⟩, by simp [intOf]; omega⟩
      ·have t4 : (kk.s != 1) = true := bne_iff_ne.2 h1
       by_cases hy : z < 0
       ·have t5 : decide (z < 0) = true := decide_eq_true hy
        (have AN := hide (show Tb false _ from all_next (b' := false) AL.out HT.out (by rw [CI.out]; simp [h1, hy])))
        go_wp2_with fail
        exact ⟨⟨k + 1, false, by omega, rfl, by go_num, B, AN⟩, by simp [intOf]; omega⟩
       ·have t5 : decide (z < 0) = false := decide_eq_false hy
        (have AN := hide (show Tb true _ from all_next (b' := true) AL.out HT.out (by rw [CI.out]; simp [h1, h2]; omega)))
        go_wp2_with fail
        exact ⟨⟨k + 1, true, by omega, rfl, by go_num, B, AN⟩, by simp [intOf]; omega⟩
  ·obtain rfl : k = m := by omega
   have AC := hide (show o = true ↔ ∀ t ∈ cprob ⟨nm, ob, (none, 0, 0), rows, (none, 0, 0), vars⟩, Ckeep t f.length (xf f) from by
    rw [show o = true ↔ _ from AL.out]
    have hl : (cprob ⟨nm, ob, (none, 0, 0), rows, (none, 0, 0), vars⟩).length = k := by
     have h : l.length = (cprob ⟨nm, ob, (none, 0, 0), rows, (none, 0, 0), vars⟩).length := CRS.out.len
     rw [← h, HM.out]
    constructor
    ·intro h t ht
     obtain ⟨j, hj, e⟩ := List.getElem_of_mem ht
     exact h j t (by omega) (by rw [List.getElem?_eq_getElem hj, e])
    ·intro h j u _ hu
     exact h u (List.mem_of_getElem? hu))
   have BB := hide B.out
   clear AL B
   obtain ⟨p0, p1, p2, p3⟩ := (PQ.out.step BB.out).alls
   go_wp2_with fail
   refine (mwhole_c (HP.out.step BB.out) (by have := OK.out.2.1; dsimp only at this ⊢; omega)).mono ?_
   rintro e w6 ⟨v9, rfl, lr, bx⟩
   obtain ⟨A9, c9, e8, hw1', hw2, hw3⟩ := id lr
   have LL := hide (show (vars.map (·.w)).length = n6 by rw [List.length_map]; exact HN.out.symm)
   have lr2 : Lr eb1 1 w6 v9 (vars.map (·.w)) := lr
   have e9 : v9 = .slice A9 n6 c9 := by rw [← LL.out]; exact e8
   have hw1 : n6 ≤ c9 := by rw [← LL.out]; exact hw1'
   clear e8 hw1'
   subst e9
   have LR := hide lr2
   have B6 := hide (Below.step BB.out BB.out.size bx)
   unfold maxLen at hw2
   clear lr lr2 bx hw3 BB p0 p1 p2 p3
   go_wp2_with fail
   obtain ⟨wo, hwo⟩ : ∃ wo, wo = wr := ⟨_, rfl⟩
   subst hwo
   go_loopw [5, 67] (fun av iv wr => ∃ (q : Nat) (o : Bool), q ≤ n6 ∧ av = .bool o ∧ iv = .int .i64 (q : Int) ∧ Hid (Below w6.heap.size w6 wr) ∧ Hid (Tb o ((∀ t ∈ cprob ⟨nm, ob, (none, 0, 0), rows, (none, 0, 0), vars⟩, Ckeep t f.length (xf f)) ∧ ∀ (j : Nat) u, j < q → vars[j]? = some u → (u.w = true → Isw (xf f (j : Int)))))) (fun _ iv _ => n6 - (intOf iv).toNat)
   case atStart => exact ⟨0, o, Nat.zero_le _, rfl, rfl, hide (Below.refl _ _), hide (by unfold Tb; rw [AC.out]; exact ⟨fun h => ⟨h, fun j u hj => by omega⟩, fun h => h.1⟩)⟩
   case round =>
    obtain ⟨q, o, hq, rfl, rfl, B, AL⟩ := hrel
    by_cases hlt2 : q < n6
    ·obtain ⟨x, hx⟩ := len_of (d := vars) (k := q) (by rw [← HN.out]; exact hlt2)
     obtain ⟨y, hy⟩ := len_of (d := f) (k := q) (by rw [← FL.out]; exact hlt2)
     have XF := hide (xf_in hy)
     have HX := hide hx
     have RY := hide ((HF.out.2 y (List.mem_of_getElem? hy)).step (Below.step B6.out B6.out.size B.out))
     have hxw : (vars.map (·.w))[q]? = some x.w := by rw [List.getElem?_map, hx]; rfl
     obtain ⟨b, off, rfl, hb, hc⟩ := (LR.out.step B.out).get hxw
     have c0 := hc 0 _ rfl
     rw [Nat.mul_one, Nat.add_zero] at c0
     obtain ⟨b', off', rfl, hb', hc'⟩ := (HF.out.1.step (Below.step B6.out B6.out.size B.out)).get hy
     have q0 := hc' 0 _ rfl
     have q1 := hc' 1 _ rfl
     have q2 := hc' 2 _ rfl
     rw [Nat.add_zero] at q0
     have l0 : (0 : Int) ≤ (q : Int) := by omega
     have l1 : (q : Int) < (n6 : Int) := by omega
     obtain ⟨xw, hxe⟩ : ∃ xw, xw = x.w := ⟨_, rfl⟩
     rw [← hxe] at c0
     have XW := hide hxe
     clear hc hb hc' hb' hx hy hxw hxe
     cases o with
     | false =>
      have AN := hide (show Tb false _ from whl_next (b' := false) (C := fun u j => u.w = true → Isw (xf f (j : Int))) AL.out HX.out (by simp))
      go_wp2_with fail
      exact ⟨⟨q + 1, false, by omega, rfl, by go_num, B, AN⟩, by simp [intOf]; omega⟩
     | true =>
      cases xw with
      | false =>
       have AN := hide (show Tb true _ from whl_next (b' := true) (C := fun u j => u.w = true → Isw (xf f (j : Int))) AL.out HX.out (by rw [← XW.out]; simp))
       go_wp2_with fail
       exact ⟨⟨q + 1, true, by omega, rfl, by go_num, B, AN⟩, by simp [intOf]; omega⟩
      | true =>
       go_wp2_with fail
       refine (rof_f (L := 6) RY.out (by omega) (by omega)).mono ?_
       rintro e w7 ⟨qb, rfl, hq2, rq, bx⟩
       have EQ := hide hq2
       have RQ := hide rq
       replace B := hide (Below.step B.out B.out.size bx)
       clear hq2 rq bx c0 q0 q1 q2
       go_wp2_with fail
       refine (rqwhole_any RQ.out (by omega)).mono ?_
       rintro e w8 ⟨rfl, bx⟩
       replace B := hide (Below.step B.out B.out.size bx)
       clear bx
       rw [EQ.out]
       obtain ⟨o2, ho2⟩ : ∃ o2, o2 = decide (((y.r.floor : Int) : Rat) = y.r) := ⟨_, rfl⟩
       rw [← ho2]
       have AN := hide (show Tb o2 _ from whl_next (b' := o2) (C := fun u j => u.w = true → Isw (xf f (j : Int))) AL.out HX.out (by rw [← XW.out, XF.out, ho2, isw_b]; simp))
       clear ho2
       cases o2
       all_goals
        go_wp2_with fail
        exact ⟨⟨q + 1, _, by omega, rfl, by go_num, B, AN⟩, by simp [intOf]; omega⟩
    ·obtain rfl : q = n6 := by omega
     have B7 := hide (Below.step B6.out B6.out.size B.out)
     obtain ⟨p0, p1, p2, p3⟩ := (PQ.out.step B7.out).alls
     go_wp2_with fail
     refine (mholds_c (L := 6) (K := 6) (HP.out.step B7.out) (HF.out.step B7.out) OK.out.len (by omega) (by omega) (by omega) (by omega)).mono ?_
     rintro e w8 ⟨⟨o9, rfl, ho9⟩, bx⟩
     have EQ := hide (show (o9 == o) = true from by
      have h1 : o9 = true ↔ o = true := by
       rw [ho9, show o = true ↔ _ from AL.out]
       have hkp := keep_prob ⟨nm, ob, (none, 0, 0), rows, (none, 0, 0), vars⟩ (xf f) (fun c hc => xf_out f c (by dsimp only at hc; have := FL.out; have := HN.out; omega))
       dsimp only at hkp
       have hfl : f.length = vars.length := by rw [← FL.out, HN.out]
       rw [hfl, hkp]
       constructor
       ·rintro ⟨_, h2, h3⟩
        exact ⟨⟨fun i x hx => (h2 i x hx).1, h3⟩, fun j u _ hu => (h2 j u hu).2⟩
       ·rintro ⟨⟨h2, h3⟩, h4⟩
        exact ⟨HN.out.symm ▸ rfl, fun i x hx => ⟨h2 i x hx, h4 i x (by rw [HN.out]; exact (List.getElem?_eq_some_iff.1 hx).1) hx⟩, h3⟩
      cases o9 <;> cases o <;> simp_all)
     have B8 := hide (Below.step BW.out BW.out.size (Below.step B7.out B7.out.size bx))
     clear ho9 bx p0 p1 p2 p3
     go_wp2_with fail
     go_ret
     exact ⟨by show Ending.returned (.bool (o9 == o)) = _; rw [EQ.out], B8.out⟩
end Go.Proofs.YthnlehknbkiomaaGreat
