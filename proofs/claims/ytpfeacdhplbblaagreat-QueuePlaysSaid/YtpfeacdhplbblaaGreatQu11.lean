
/-
  Queues: Prune, walked to its end.
-/
import Derived.Test.YtpfeacdhplbblaaGreatBundleW
import Derived.Deep.DeepCutAuto


namespace Go.Proofs.YtpfeacdhplbblaaGreat
open Go.RowKit Go.Proofs.YtpfeacdhplbblaaGreat.Num
set_option linter.unusedVariables false
set_option linter.unusedSimpArgs false
set_option maxRecDepth 100000
theorem wpList_app {P : Program} {ops : Array Oper} {rest : List Oper} {o : Oper} {a : Act} {Q : Exit → Act → World → Prop} (hgd : o.guard = none) (s y : Operand) (t : TypeId)
    (ho : o.op = .call { callee := .builtin .append, args := #[s, y], argTypes := #[t, t] }) (u z v : Value) (wr w' : World) (hs : a.eval s = u) (hy : a.eval y = z)
    (hr : (Builtin.append_ #[t, t] o.type #[u, z]).run P wr = .ok v w') (h : wpList P ops Q rest (a.put o.dst v) w') :
    wpList P ops Q (o :: rest) a wr :=
  wpList_plain hgd fun _ hK => by
    unfold Oper.wp execOp
    simp only [ho, resolve, invoke, builtin, Sem.run_bind, Sem.run_pure, Result.andThen_ok, List.map_toArray, List.map_cons, List.map_nil, hs, hy, hr]
    exact hK _ _ h
theorem Ow.otI {W : World} {B : Nat} {v : Value} {d : List Int} (h : Ow 3 eiq 1 W B v d) : ∀ g, v.ownBlock = some g → Ot W g := by
  intro g' e
  rcases h.form with ⟨rfl, _⟩ | ⟨g2, cap, cur, rfl, hB, hlt, hh, r⟩
  · cases e
  · have e : g2 = g' := by simpa [Value.ownBlock] using e
    subst e
    exact ⟨cur, _, _, hh, by decide⟩
theorem gone_len (q : Rat) (l : List Nx) : (gone q l).length ≤ l.length := by unfold gone; rw [List.length_map]; exact List.length_filter_le _ _
theorem bqt {W : World} {g : Nat} {s : Bool} {u t : Value} (h : Bq W g s u t) : W.cell? ⟨g, 0, none⟩ = some (.bool s) ∧ W.cell? ⟨g, 1, none⟩ = some u ∧ W.cell? ⟨g, 2, none⟩ = some t := ⟨h.all.1, h.all.2.1, h.all.2.2.1⟩
set_option maxHeartbeats 16000000 in
theorem qprune0_c {w : World} {B g M : Nat} {o : Int} {q : Rx} (hq : Qo w B g o (none, 0, 0) [] M) :
    Calls Tryz.prog 15 #[.pointer (some ⟨g, 0, none⟩), rx q] w (PrRet w B g o (none, 0, 0) [] M q.r) := by
  have b0 := bal1 w (rbox q.s (sv q.u) (sv q.t))
  have Q1 := hide (hq.step b0)
  have B1 := hide b0
  have BB := hide (show B ≤ w.heap.size from Nat.le_trans hq.2.1 (Nat.le_of_lt hq.1.lt))
  clear hq b0
  go_enter Tryz.func15, Tryz.ntmps15
  have c1 : (w.alloc (rbox q.s (sv q.u) (sv q.t))).cell? ⟨g, 1, none⟩ = some (.slice none 0 0) := Q1.out.1.c
  have f1 := Q1.out.1.fz 1
  have cl := fun W ty => run_clear0 W none 0 ty
  go_wp2_with fail
  generalize (w.alloc (rbox q.s (sv q.u) (sv q.t))) = w1 at *
  go_loopw [5, 6, 20] (fun ov nv iv wr => iv = .int .i64 0 ∧ ov = .slice none 0 0 ∧ nv = .slice none 0 0 ∧ wr = w1) (fun _ _ iv _ => 0)
  case atStart => exact ⟨rfl, rfl, rfl, rfl⟩
  case round =>
    obtain ⟨rfl, rfl, rfl, rfl⟩ := hrel
    go_wp2_with fail
    have hq2 : Qo (wr.setCell ⟨g, 1, none⟩ (.slice none 0 0)) B g o (none, 0, 0) [] M := ⟨Q1.out.1.put (none, 0, 0), Q1.out.2.1, Ow.nil _ _ _ _ _, fun x hx => by cases hx⟩
    have he2 : Efq w (wr.setCell ⟨g, 1, none⟩ (.slice none 0 0)) B g (none, 0, 0) (none, 0, 0) := ⟨(B1.out.mono BB.out).setCell (p := ⟨g, 1, none⟩) Q1.out.2.1 _, fun b hb hbg _ => ((only_set1 wr g 1 _).block b (Nat.lt_of_lt_of_le hb B1.out.size) (fun e => hbg (Option.some.inj e))).trans (B1.out.block b hb), .inl rfl⟩
    have Q2 := hide hq2
    have E2 := hide he2
    have c2 := hq2.1.c
    clear c1 f1 hq2 he2
    generalize (wr.setCell ⟨g, 1, none⟩ (.slice none 0 0)) = w2 at *
    go_loopw [55] (fun iv wr => iv = .int .i64 0 ∧ wr = w2) (fun iv _ => 0)
    case atStart => exact ⟨rfl, rfl⟩
    case round =>
      obtain ⟨rfl, rfl⟩ := hrel
      go_wp2_with fail
      refine (sort_c (B := w.heap.size) (Ow.nil _ _ _ _ _) (by simp)).mono ?_
      rintro e w3 ⟨rfl, o3, g3⟩
      have fin : PrRet w B g o (none, 0, 0) [] M q.r (.returned (.slice none 0 0)) w3 := ⟨.slice none 0 0, (none, 0, 0), [], rfl, o3, Q2.out.offO g3 (fun h e => by cases e) (fun e => by cases e) (fun b e => by cases e), List.Perm.refl _, Hn.zero _ _, E2.out.offO g3 (Nat.le_trans BB.out E2.out.1.size) (fun b e => by cases e)⟩
      have FIN := hide fin
      clear o3 g3 fin
      go_wp2_with fail
      go_ret
      exact FIN.out
set_option maxHeartbeats 16000000 in
theorem qprune_e {w : World} {B g M : Nat} {o : Int} {v : Sl} {l : List Nx} {q : Rx} (hq : Qo w B g o v l M) (hr : ∀ W v', Efq w W B g v v' → Ra W (rx q) q.r M) (hL : l.length ≤ 1954687338211) (h1 : 1 ≤ M) (hM : M ≤ 1000000) :
    Calls Tryz.prog 15 #[.pointer (some ⟨g, 0, none⟩), rx q] w (PrRet w B g o v l M q.r) := by
  obtain ⟨VA, n, c⟩ := v
  rcases hq.2.2.1.form with ⟨e, rfl⟩ | ⟨a, cap, cur, e, hBa, hlt, hh, hl1, hl2, hl3, hl4⟩
  · injection e with e1 e2 e3
    subst e1 e2 e3
    exact qprune0_c hq
  injection e with e1 e2 e3
  subst e1
  have hag : a ≠ g := fun e => ow_quq hq.2.2.1 hq.1 (by rw [← e]; rfl)
  have hn : l.length = n := e2.symm
  have e3 : c = cap := e3
  subst e3
  have hc9 : n ≤ c ∧ c ≤ 9223372036854775807 := by unfold maxLen at hl2; omega
  clear e2 hh hl1 hl2 hl3 hl4
  have b0 := bal1 w (rbox q.s (sv q.u) (sv q.t))
  have BB := hide (show B ≤ w.heap.size from Nat.le_trans hq.2.1 (Nat.le_of_lt hq.1.lt))
  have AG := hide (show a ≠ g ∧ a < w.heap.size ∧ g < w.heap.size ∧ B ≤ a ∧ B ≤ g from ⟨hag, hlt, hq.1.lt, hBa, hq.2.1⟩)
  have CC := hide hc9
  have LL := hide hn
  have L9 := hide hL
  have BX := hide (Bq.new w q.s (sv q.u) (sv q.t))
  have HR := hide (show ∀ W v', Efq (w.alloc (rbox q.s (sv q.u) (sv q.t))) W B g (some ⟨a, 0, none⟩, n, c) v' → Ra W (rx q) q.r M from fun W v' h => hr W v' ((Efq.of b0 BB.out).trans h))
  have Q1 := hide (hq.step b0)
  have EW := hide (Efq.of (B := B) (g := g) (v := (some ⟨a, 0, none⟩, n, c)) b0 BB.out)
  have SZ := hide (show (w.alloc (rbox q.s (sv q.u) (sv q.t))).heap.size = w.heap.size + 1 by simp)
  have c1 : (w.alloc (rbox q.s (sv q.u) (sv q.t))).cell? ⟨g, 1, none⟩ = some (.slice (some ⟨a, 0, none⟩) n c) := Q1.out.1.c
  clear hq b0 hr hag hlt hBa hL
  go_enter Tryz.func15, Tryz.ntmps15
  go_wp2_with fail
  generalize (w.alloc (rbox q.s (sv q.u) (sv q.t))) = w1 at *
  generalize hgl : w.heap.size = gl at *
  have GL := hide hgl
  clear hgl c1
  obtain ⟨j0, hj, hy0, hy1, hy2⟩ := info_parts info_iq
  go_loopw [5, 6, 20] (fun ov nv iv wr => ∃ (k m : Nat), k ≤ n ∧ iv = .int .i64 (k : Int) ∧ nv = .slice (some ⟨a, 0, none⟩) m c ∧ Hid (Pr w1 B g a n c o l M q.r k m ov wr)) (fun _ _ iv _ => n - (intOf iv).toNat)
  case atStart => exact ⟨0, 0, Nat.zero_le _, rfl, rfl, hide (Pr.start Q1.out (Efq.refl _ _ _ _))⟩
  case round =>
    obtain ⟨k, m, hk, rfl, rfl, PR⟩ := hrel
    have HB := hide (PR.out.2.2.2.1)
    by_cases hlt : k < n
    · have l1 : (0 : Int) ≤ (k : Int) := by omega
      have l2 : (k : Int) < (n : Int) := by omega
      obtain ⟨x, hx⟩ := len_of (d := l) (k := k) (by have := LL.out; omega)
      have HX := hide hx
      have hm : m ≤ k := PR.out.le
      obtain ⟨x0, x1, x2, x3, x4⟩ := Ow.cellsN PR.out.1.2.2.1 (PR.out.at_ hx)
      have bn := bal1 wr (nbox x)
      have NX := hide (Nq.new wr x)
      have RX := hide ((PR.out.1.2.2.2 x (List.mem_of_getElem? (PR.out.at_ hx))).ra.step bn)
      have LX := hide (show Bq (wr.alloc (nbox x)) gl q.s (sv q.u) (sv q.t) from (show Bq wr gl q.s (sv q.u) (sv q.t) from (PR.out.2.2.2.2.1 gl BX.out.lt (by have := AG.out; have := GL.out; omega) (fun e => by have := AG.out; have := GL.out; have e : some a = some gl := e; injection e with e; omega)).trans BX.out).step bn)
      have P2 := hide (PR.out.step bn)
      have LR := hide (HR.out _ _ P2.out.2.2.2)
      have SX := hide (show wr.heap.size < (wr.alloc (nbox x)).heap.size by simp)
      clear hx bn PR HB
      obtain ⟨q0, q1, q2⟩ := bqt LX.out
      obtain ⟨y0, y1, y2, y3, y4⟩ := NX.out.all
      go_wp2_with fail
      generalize (wr.alloc (nbox x)) = w2 at *
      generalize wr.heap.size = gx at *
      refine (cmp_r (r1 := x.x.r) (r2 := q.r) (L := M) RX.out LR.out h1 (by omega)).mono ?_
      rintro e w3 ⟨rfl, bx⟩
      replace P2 := hide (P2.out.step bx)
      replace NX := hide (NX.out.step bx)
      clear bx q0 q1 q2 y0 y1 y2 y3 y4 x0 x1 x2 x3 x4 LX RX LR
      obtain ⟨y0, y1, y2, y3, y4⟩ := NX.out.all
      by_cases ht : x.x.r < q.r
      · have t1 : decide (cmpR x.x.r q.r < 0) = true := by unfold cmpR; rw [if_pos ht]; rfl
        have HT := hide ht
        have bn := bal1 w3 (nbox x)
        have hap : ∀ ty, (Builtin.append_ #[29, 29] ty #[.slice (some ⟨a, 0, none⟩) m c, .slice (some ⟨w3.heap.size, 0, none⟩) 1 1]).run Tryz.prog (w3.alloc (nbox x)) = .ok (.slice (some ⟨a, 0, none⟩) (m + 1) c) (put5n (w3.alloc (nbox x)) a (m * 5) x) := fun ty => run_roomN (g := 0) (n := n) (x := x) P2.out.1.2.2.1 (show m < n by omega) ty
        have P3 := hide ((P2.out.step bn).stay HX.out ht (fun b hb => by have := (P2.out.2.2.1.lt hb).1; have := AG.out; have := SZ.out; omega))
        clear ht bn P2
        go_wp2_with (at_builtin; (refine wpList_app rfl (.tmp 29) (.tmp 31) 29 rfl (.slice (some ⟨a, 0, none⟩) m c) (.slice (some ⟨w3.heap.size, 0, none⟩) 1 1) (.slice (some ⟨a, 0, none⟩) (m + 1) c) (w3.alloc (nbox x)) (put5n (w3.alloc (nbox x)) a (m * 5) x) rfl rfl (hap _) ?_; clear hap))
        exact ⟨⟨k + 1, m + 1, by omega, by go_num, by first | rfl | simp, P3⟩, by simp [intOf]; omega⟩
      · have t1 : decide (cmpR x.x.r q.r < 0) = false := by unfold cmpR; rw [if_neg ht]; split <;> rfl
        have HT := hide ht
        have hl0 : (gone q.r (l.take k)).length ≤ l.length := Nat.le_trans (gone_len _ _) (by simp; omega)
        have hl1 := hide (show (gone q.r (l.take k)).length + 1 ≤ 10000000000000 by have := L9.out; omega)
        have hl2 := hide (show ((gone q.r (l.take k)).length + 1) * 8 ≤ 140737488355328 by have := L9.out; omega)
        clear hl0
        have HS := hide (show w1.heap.size ≤ w3.heap.size from P2.out.2.2.2.1.size)
        clear ht
        go_wp2_with (at_builtin; (refine wpList_pushT rfl (.tmp 33) (.tmp 36) 49 rfl Tryz.underlying49 hj hy0 hy1 hy2 rfl (by omega) eiq_len eiq_one w3 w1.heap.size _ (gone q.r (l.take k)) x.id _ rfl P2.out.2.2.1 rfl rfl hl1.out hl2.out HS.out ?_; intro v' w' ho hg; have PF := hide (P2.out.go (out' := v') HX.out HT.out (by have := AG.out; have := SZ.out; omega) (by have := AG.out; have := SZ.out; omega) (by have := AG.out; have := SZ.out; omega) ho hg.1); clear ho hg))
        exact ⟨⟨k + 1, m, by omega, by go_num, by first | rfl | simp, PF⟩, by simp [intOf]; omega⟩
    · have hkn : k = n := by omega
      rw [hkn] at PR
      obtain ⟨hmn, hmk, hq, htk, ho⟩ := PR.out.end_ LL.out
      clear hkn
      have f1 := hq.1.fz 1
      have c1 : wr.cell? ⟨g, 1, none⟩ = some (.slice (some ⟨a, 0, none⟩) n c) := hq.1.c
      obtain ⟨D, hD⟩ : ∃ D : Option Addr, (if c = m then some (⟨a, 0, none⟩ : Addr) else some ⟨a, m * 5, none⟩) = D := ⟨_, rfl⟩
      have hcl : ∀ ty, (Builtin.clear_ #[29] ty #[.slice D (n - m) (c - m)]).run Tryz.prog wr = .ok (.tuple #[]) (clw wr a m (n - m)) := by
        intro ty
        by_cases h : m = n
        · rw [h, Nat.sub_self, clw0]
          exact run_clear0 _ _ _ _
        · rw [← hD, if_neg (by omega)]
          exact run_clearN (by omega) (fun j hj => ow_cells (c := c) hq.2.2.1 _ (by omega)) (fun j => hq.2.2.1.frozen rfl j) ty
      obtain ⟨q1, q2, ef⟩ := hq.cutN hmn
      rw [htk] at q2
      have n1 : (m : Int) ≤ (n : Int) := by omega
      have n2 : (0 : Int) ≤ (m : Int) := by omega
      have n3 : (n : Int) ≤ (c : Int) := by omega
      have HO := hide (ho.efq ef (by have := AG.out; have := SZ.out; omega) (fun b e => by have := AG.out; have := SZ.out; have e : some a = some b := e; injection e with e; omega))
      have HE := hide (PR.out.2.2.2.trans ef)
      have MK := hide hmk
      have MN := hide hmn
      have Q1 := hide q1
      have Q2 := hide q2
      have c2 : (clw wr a m (n - m)).cell? ⟨g, 1, none⟩ = some (.slice (some ⟨a, 0, none⟩) n c) := q1.c
      have f2 := q1.fz 1
      have c3 := q2.1.c
      clear hmk hq htk ho PR q1 q2 ef f1 HB
      have KL := hide (keep_len q.r l)
      go_wp2_with fail
      clear hcl c1 c2 f2 n1 n2 n3 hD
      generalize hk1 : (clw wr a m (n - m)).setCell ⟨g, 1, none⟩ (.slice (some ⟨a, 0, none⟩) m c) = wm at *
      clear hk1 Q1
      go_loopw [55] (fun iv wx => ∃ (j : Nat) (l1 : List Nx), j ≤ m ∧ iv = .int .i64 (j : Int) ∧ Hid (Qo wx B g o (some ⟨a, 0, none⟩, m, c) l1 M) ∧ Hid (l1.Perm (keep q.r l)) ∧ Hid (Hn o l1 j) ∧ Hid (Efq wm wx B g (some ⟨a, 0, none⟩, m, c) (some ⟨a, 0, none⟩, m, c))) (fun iv _ => m - (intOf iv).toNat)
      case atStart => exact ⟨0, keep q.r l, Nat.zero_le _, rfl, Q2, hide (List.Perm.refl _), hide (Hn.zero _ _), hide (Efq.refl _ _ _ _)⟩
      case round =>
        obtain ⟨j, l1, hj, rfl, QJ, PJ, NJ, EJ⟩ := hrel
        by_cases hlt : j < m
        · have l1' : (0 : Int) ≤ (j : Int) := by omega
          have l2 : (j : Int) < (m : Int) := by omega
          have LJ := hide (show j < l1.length by rw [PJ.out.length_eq, ← MK.out]; exact hlt)
          have LK := hide (show j < m from hlt)
          go_wp2_with fail
          refine (qrise_c (k := j) QJ.out LJ.out h1 hM).mono ?_
          rintro e w5 ⟨rfl, l2, q5, p5, h5, e5⟩
          have Q5 := hide q5
          have P5 := hide (p5.trans PJ.out)
          have N5 := hide (h5 (j + 1) (by omega) (by have := LJ.out; omega) NJ.out.more)
          have E5 := hide (EJ.out.trans e5)
          clear q5 p5 h5 e5
          go_wp2_with fail
          exact ⟨⟨j + 1, l2, by have := LK.out; omega, by go_num, Q5, P5, N5, E5⟩, by simp [intOf]; have := LK.out; omega⟩
        · have hjm : j = m := by omega
          have NM := hide (show Hn o l1 l1.length by rw [PJ.out.length_eq, ← MK.out, ← hjm]; exact NJ.out)
          clear NJ
          have OJ := hide (HO.out.efq EJ.out (by have := AG.out; have := SZ.out; omega) (fun b e => by have := AG.out; have := SZ.out; have e : some a = some b := e; injection e with e; omega))
          have HG := hide (show (gone q.r l).length < 4611686018427387904 by
            have := gone_len q.r l
            have := L9.out
            omega)
          have EK := hide ((EW.out.trans HE.out).trans EJ.out)
          go_wp2_with fail
          refine (sort_c OJ.out HG.out).mono ?_
          rintro e w6 ⟨rfl, o6, g6⟩
          have fin : PrRet w B g o (some ⟨a, 0, none⟩, n, c) l M q.r (.returned u5) w6 := ⟨u5, (some ⟨a, 0, none⟩, m, c), l1, rfl, o6.mono (by have := SZ.out; have := GL.out; omega), QJ.out.offO g6 (fun h e => OJ.out.otI h e) (fun e => by have := (OJ.out.lt e).1; have := AG.out; have := SZ.out; omega) (fun b e e2 => by have := (OJ.out.lt e).1; have := AG.out; have := SZ.out; have e2 : some a = some b := e2; injection e2 with e2; omega), PJ.out, NM.out, EK.out.offO g6 (Nat.le_trans BB.out (by have := EK.out.1.size; have := GL.out; omega)) (fun b e => by have := (OJ.out.lt e).1; have := AG.out; have := SZ.out; have := GL.out; have := BB.out; omega)⟩
          have FIN := hide fin
          clear o6 g6 fin
          go_wp2_with fail
          go_ret
          exact FIN.out
end Go.Proofs.YtpfeacdhplbblaaGreat
