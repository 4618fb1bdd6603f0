
/-
  Queues: New, Len, Push.
-/
import Derived.Test.YtpfeacdhplbblaaGreatQu5
import Derived.Test.YtpfeacdhplbblaaGreatKdr3


namespace Go.Proofs.YtpfeacdhplbblaaGreat
open Go.RowKit Go.Proofs.YtpfeacdhplbblaaGreat.Num
set_option linter.unusedVariables false
set_option linter.unusedSimpArgs false
set_option maxRecDepth 100000
theorem info_nd : (Tryz.prog.info? 38).map (fun i => (i.zero, i.size, i.bytes)) = some (some (.agg #[.int .i64 0, .int .i64 0, .bool false, .slice none 0 0, .slice none 0 0]), 5, 72) := by kernel_rfl
section
variable {α : Type} {enc : α → List Value} {k : Nat}
theorem run_pushT {P : Program} {t e : TypeId} {i : TypeInfo} {z : Value} {by_ : Nat} (ht : P.underlying t = some (.slice e)) (hi : P.info? e = some i) (hz : i.zero = some z)
    (hsize : i.size = k) (hby : i.bytes = by_) (hzs : z.cells.size = k) (h0 : 0 < k) (hk : ∀ x, (enc x).length = k) (h1 : ∀ x, ∀ u ∈ enc x, u.oneCell' = true) (ty : TypeId) (wr : World) (B : Nat) (v : Value) (d : List α) (x : α) (cs : Array Value) (hcs : cs.toList = enc x) (hown : Ow e enc k wr B v d)
    (hlen : d.length + 1 ≤ 10000000000000) (hbt : (d.length + 1) * by_ ≤ 140737488355328) (hB : B ≤ wr.heap.size) :
    ∃ v' w', (Builtin.append_ #[t, t] ty #[v, .slice (some ⟨wr.heap.size, 0, none⟩) 1 1]).run P (wr.alloc (.cells cs e)) = .ok v' w' ∧ Ow e enc k w' B v' (d ++ [x]) ∧
      (wr.grownBy w' v.ownBlock ∧ (v'.ownBlock = v.ownBlock ∨ v'.ownBlock = some (wr.heap.size + 1))) := by
  have ho : (wr.alloc (.cells cs e)).ownsRow B e k v d.length (flat enc d) := World.ownsRow.alloc hown _
  obtain ⟨v', w', hr, h2, h3, -, h5⟩ := run_append_own_at (P := P) (wr.alloc (.cells cs e)) B t ty e i z k by_ ht hi hz hsize hby hzs h0 v d.length _ ho
    ⟨wr.heap.size, 0, none⟩ 1 1 (enc x) (by rw [hk, Nat.one_mul]) (by
      intro j u hj
      have e1 : (⟨wr.heap.size, 0, none⟩ : Addr).add j = ⟨wr.heap.size, j, none⟩ := by
        unfold Addr.add
        by_cases h : j = 0
        · subst h; simp
        · simp [h]
      rw [e1, cell_of_row _ wr.heap.size j cs e (0, 0) (heap_alloc_new _ _), ← Array.getElem?_toList, hcs]
      exact hj) (h1 x) (by unfold maxLen; omega) hbt (by simp; omega)
  refine ⟨v', w', hr, ?_, only_trans (World.grownBy_alloc wr _ _) h3, by simpa using h5⟩
  unfold Ow
  rw [List.length_append, flat_append, flat_one]
  exact h2
theorem step_pushT {P : Program} {ops : Array Oper} {o : Oper} {a : Act} {K : Act → World → Prop} {Q : Exit → Act → World → Prop} {E : Prop} (hgd : o.guard = none) (s y : Operand) (t : TypeId)
    (ho : o.op = .call { callee := .builtin .append, args := #[s, y], argTypes := #[t, t] })
    {e : TypeId} {i : TypeInfo} {z : Value} {by_ : Nat} (ht : P.underlying t = some (.slice e)) (hi : P.info? e = some i) (hz : i.zero = some z)
    (hsize : i.size = k) (hby : i.bytes = by_) (hzs : z.cells.size = k) (h0 : 0 < k) (hk : ∀ x, (enc x).length = k) (h1 : ∀ x, ∀ u ∈ enc x, u.oneCell' = true) (wr : World) (B : Nat) (v : Value) (d : List α) (x : α) (cs : Array Value) (hcs : cs.toList = enc x)
    (hown : Ow e enc k wr B v d) (hs : a.eval s = v) (hy : a.eval y = .slice (some ⟨wr.heap.size, 0, none⟩) 1 1)
    (hlen : d.length + 1 ≤ 10000000000000) (hbt : (d.length + 1) * by_ ≤ 140737488355328) (hB : B ≤ wr.heap.size)
    (h : ∀ v' w', Ow e enc k w' B v' (d ++ [x]) → (wr.grownBy w' v.ownBlock ∧ (v'.ownBlock = v.ownBlock ∨ v'.ownBlock = some (wr.heap.size + 1))) → K (a.put o.dst v') w') :
    if Region.wanted o (yielded ops a.tmps) = true then Oper.wp P o a (wr.alloc (.cells cs e)) K Q else E := by
  rw [if_pos (by simp [Region.wanted, hgd])]
  obtain ⟨v', w', hr, h2, h3⟩ := run_pushT (P := P) ht hi hz hsize hby hzs h0 hk h1 o.type wr B v d x cs hcs hown hlen hbt hB
  unfold Oper.wp execOp
  simp only [ho, resolve, invoke, builtin, Sem.run_bind, Sem.run_pure, Result.andThen_ok, List.map_toArray, List.map_cons, List.map_nil, hs, hy, hr]
  exact h v' w' h2 h3
end
theorem Rg.efq {W W' : World} {B B' g : Nat} {v v' : Sl} {x : Rx} {L : Nat} (h : Rg W B' x L) (he : Efq W W' B g v v') (hq : Ot W g) (hv : ∀ b, (sv v).ownBlock = some b → Ot W b) : Rg W' B' x L := by
  have key : ∀ b, b < W.heap.size → (∃ cs fz, W.heap[b]? = some (.cells cs 62 fz)) → W'.heap[b]? = W.heap[b]? := by
    intro b hb ⟨cs, fz, hh⟩
    refine he.2.1 b hb (fun e => ?_) (fun e => ?_)
    · subst e
      obtain ⟨cs', T, fz', h1, h2⟩ := hq
      rw [hh] at h1
      injection h1 with h1
      injection h1 with _ h3 _
      exact h2 h3.symm
    · obtain ⟨cs', T, fz', h1, h2⟩ := hv b e
      rw [hh] at h1
      injection h1 with h1
      injection h1 with _ h3 _
      exact h2 h3.symm
  have wr : ∀ y : Sl, Wr W B' y → Wr W' B' y := by
    intro y hy
    rcases hy with hy | ⟨b, off, e, hB, hlt, hc⟩
    · exact .inl hy
    · have hk := key b (blk_lt hlt) hlt
      exact .inr ⟨b, off, e, hB, by rw [hk]; exact hlt, fun j hj => ⟨by
        obtain ⟨z, hz⟩ := (hc j hj).1
        exact ⟨z, (World.cell?_of_block hk).trans hz⟩, by have := (hc j hj).2; unfold World.frozen? at this ⊢; rw [hk]; exact this⟩⟩
  have cw : ∀ {A : Option Addr} {n c z : Nat}, Wr W B' (A, n, c) → Cw W (.slice A n c) z L → Cw W' (.slice A n c) z L := by
    intro A n c z hw hc
    obtain ⟨D, m, e, ⟨h1, h3⟩, h2⟩ := hc
    injection e with e1 e2 e3
    subst e1 e2 e3
    refine ⟨A, c, rfl, ⟨h1, fun h0 => ?_⟩, h2⟩
    obtain ⟨b, off, e, hb, hcc⟩ := h3 h0
    rcases hw with hw | ⟨b', off', e', -, hlt, -⟩
    · dsimp only at hw; omega
    · dsimp only at e'
      rw [e] at e'
      injection e' with e'
      injection e' with e4 e5
      subst e4
      have hk := key b hb hlt
      exact ⟨b, off, e, Nat.lt_of_lt_of_le hb he.1.size, fun j hj => (World.cell?_of_block hk).trans (hcc j hj)⟩
  obtain ⟨u, t, e, g1, g2⟩ := h.1
  injection e with e
  have e3 := congrArg Array.toList e
  simp at e3
  obtain ⟨e4, rfl, rfl⟩ := e3
  exact ⟨⟨_, _, by rw [← e4], cw h.2.1 g1, cw h.2.2 g2⟩, wr _ h.2.1, wr _ h.2.2⟩
theorem qnew_c (w : World) (z : Int) (hz : z = 0 ∨ z = 1) : Calls Tryz.prog 5 #[.int .i64 z] w fun e w' => ∃ g, e = .returned (.tuple #[.pointer (some ⟨g, 0, none⟩), .int .i64 0]) ∧ Qo w' w.heap.size g z (none, 0, 0) [] 6 ∧ Below w.heap.size w w' := by
  rcases hz with rfl | rfl
  all_goals
    go_enter Tryz.func5, Tryz.ntmps5
    go_wp2_with fail
    go_ret2
    exact ⟨w.heap.size, rfl, ⟨heap_alloc_new w _, Nat.le_refl _, Ow.nil _ _ _ _ _, fun x hx => by cases hx⟩, bal1 _ _⟩
theorem qnewx_c (w : World) (z : Int) (h0 : z ≠ 0) (h1 : z ≠ 1) : Calls Tryz.prog 5 #[.int .i64 z] w fun e w' => e = .returned (.tuple #[.pointer none, .int .i64 2]) ∧ Below w.heap.size w w' := by
  have t0 : (z != 0) = true := by simp [h0]
  have t1 : (z != 1) = true := by simp [h1]
  go_enter Tryz.func5, Tryz.ntmps5
  go_wp2_with fail
  go_ret2
  exact ⟨rfl, Below.refl _ _⟩
theorem qlen_c {w : World} {B g M : Nat} {o : Int} {v : Sl} {l : List Nx} (hq : Qo w B g o v l M) :
    Calls Tryz.prog 19 #[.pointer (some ⟨g, 0, none⟩)] w fun e w' => e = .returned (.int .i64 (l.length : Int)) ∧ Below w.heap.size w w' := by
  obtain ⟨VA, vn, vc⟩ := v
  have VN := hide (lr_nQ hq.rd).1
  have c1 : w.cell? ⟨g, 1, none⟩ = some (.slice VA vn vc) := hq.1.c
  clear hq
  go_enter Tryz.func19, Tryz.ntmps19
  go_wp2_with fail
  go_ret
  exact ⟨by rw [← VN.out]; rfl, Below.refl _ _⟩
def PuRet (w : World) (B g : Nat) (o : Int) (v : Sl) (l : List Nx) (M : Nat) (n : Nx) (e : Ending) (w' : World) : Prop :=
  e = .returned (.tuple #[]) ∧ ∃ (v' : Sl) (l' : List Nx) (y : Rx), y.r = n.x.r ∧ Rg w' w.heap.size y M ∧ Qo w' B g o v' l' M ∧ l'.Perm (⟨n.id, n.dp, y⟩ :: l) ∧ (Hn o l l.length → Hn o l' l'.length) ∧ Efq w w' B g v v'
theorem Qo.grow {W W' : World} {B g : Nat} {o : Int} {v v' : Sl} {l : List Nx} {x : Nx} {M : Nat} (h : Qo W B g o v l M) (hx : Rg W B x.x M) (ho : Ow 38 en 5 W' B (sv v') (l ++ [x])) (hg : W.grownBy W' (sv v).ownBlock ∧ ((sv v').ownBlock = (sv v).ownBlock ∨ (sv v').ownBlock = some (W.heap.size + 1))) :
    Quq W' g o v ∧ Qo (W'.setCell ⟨g, 1, none⟩ (sv v')) B g o v' (l ++ [x]) M ∧ Efq W (W'.setCell ⟨g, 1, none⟩ (sv v')) B g v v' := by
  have q' : Quq W' g o v := (hg.1.block g h.1.lt (fun e => ow_quq h.2.2.1 h.1 e.symm)).trans h.1
  refine ⟨q', ⟨q'.put v', h.2.1, ho.kept (only_set1 W' g 1 (sv v')) (.inr (ow_quq ho q')), fun y hy => ?_⟩, ((Below.refl B W).grown hg.1 (Nat.le_trans h.2.1 (Nat.le_of_lt h.1.lt)) (fun b hb => (h.2.2.1.lt hb).1)).setCell (p := ⟨g, 1, none⟩) h.2.1 _, fun b hb hbg hbv => ?_, ?_⟩
  · have key : Rg W B y.x M := by
      rcases List.mem_append.1 hy with hy | hy
      · exact h.2.2.2 y hy
      · simp at hy
        subst hy
        exact hx
    exact (key.grownT hg.1 (fun g' e => h.2.2.1.otN g' e)).grownT (only_set1 W' g 1 (sv v')) (fun g' e => by injection e with e; subst e; exact q'.ot)
  · exact ((only_set1 W' g 1 (sv v')).block b (Nat.lt_of_lt_of_le hb hg.1.size) (fun e => hbg (Option.some.inj e))).trans (hg.1.block b hb (fun e => hbv e.symm))
  · rcases hg.2 with e | e
    · exact .inl e
    · refine .inr (fun b hb => ?_)
      rw [e] at hb
      injection hb with hb
      omega
theorem Nq.otq {W : World} {g : Nat} {n : Nx} (h : Nq W g n) : Ot W g := ⟨_, _, _, h, by decide⟩
theorem only_set3 (W : World) (g : Nat) (y : Rx) : W.grownBy (((W.setCell ⟨g, 2, none⟩ (.bool y.s)).setCell ⟨g, 3, none⟩ (sv y.u)).setCell ⟨g, 4, none⟩ (sv y.t)) (some g) :=
  only_set (p := ⟨g, 4, none⟩) (only_set (p := ⟨g, 3, none⟩) (only_set (p := ⟨g, 2, none⟩) (only_refl W (some g)) rfl _) rfl _) rfl _
theorem nq_put {W : World} {g : Nat} {n : Nx} (h : Nq W g n) (y : Rx) : Nq (((W.setCell ⟨g, 2, none⟩ (.bool y.s)).setCell ⟨g, 3, none⟩ (sv y.u)).setCell ⟨g, 4, none⟩ (sv y.t)) g ⟨n.id, n.dp, y⟩ :=
  heap_setCell_same _ g 4 _ _ _ (heap_setCell_same _ g 3 _ _ _ (heap_setCell_same W g 2 _ _ _ h))
set_option maxHeartbeats 16000000 in
theorem qpush_c {w : World} {B g M : Nat} {o : Int} {v : Sl} {l : List Nx} {n : Nx} (hq : Qo w B g o v l M) (hn : Ra w (rx n.x) n.x.r M) (hL : l.length + 1 ≤ 1954687338211) (h1 : 1 ≤ M) (hM : M ≤ 1000000) :
    Calls Tryz.prog 8 #[.pointer (some ⟨g, 0, none⟩), nx n] w (PuRet w B g o v l M n) := by
  obtain ⟨VA, vn, vc⟩ := v
  have b0 := bal1 w (nbox n)
  have NQ := hide (Nq.new w n)
  have HQ := hide hq
  have HN := hide (hn.step b0)
  have BL := hide b0
  have NB := hide (show (sv (VA, vn, vc)).ownBlock ≠ some w.heap.size from fun e => by have := (hq.2.2.1.lt e).2; omega)
  have BB := hide (show B ≤ w.heap.size from Nat.le_trans hq.2.1 (Nat.le_of_lt hq.1.lt))
  have LLEN := hide (show l.length + 1 ≤ 10000000000000 by omega)
  have LBYT := hide (show (l.length + 1) * 72 ≤ 140737488355328 by omega)
  have GB := hide (show g ≠ w.heap.size by have := hq.1.lt; omega)
  clear b0 hq hn
  obtain ⟨p0, p1, p2, p3, p4⟩ := NQ.out.all
  go_enter Tryz.func8, Tryz.ntmps8
  go_wp2_with fail
  generalize (w.alloc (nbox n)) = w0 at *
  refine (form_g (L := M) HN.out h1 (by omega)).mono ?_
  rintro e w1 ⟨y, rfl, ey, gy, bx⟩
  have NQ1 := NQ.out.step bx
  obtain ⟨-, -, c2, c3, c4⟩ := NQ1.all
  have f2 := NQ1.fz 2
  have f3 := NQ1.fz 3
  have f4 := NQ1.fz 4
  have EY := hide ey
  replace BL := hide (Below.step1 BL.out bx)
  have N2 := hide (nq_put NQ1 y)
  have B2 := hide (((BL.out.setCell (p := ⟨w.heap.size, 2, none⟩) (Nat.le_refl _) (.bool y.s)).setCell (p := ⟨w.heap.size, 3, none⟩) (Nat.le_refl _) (sv y.u)).setCell (p := ⟨w.heap.size, 4, none⟩) (Nat.le_refl _) (sv y.t))
  have Y2 := hide ((gy.mono (B' := w.heap.size) (by have := NQ.out.lt; omega)).grownT (only_set3 w1 w.heap.size y) (fun g' e => by injection e with e; subst e; exact NQ1.otq))
  clear NQ HN bx ey gy p0 p1 p2 p3 p4 NQ1
  go_wp2_with fail
  clear c2 c3 c4 f2 f3 f4
  generalize (((w1.setCell ⟨w.heap.size, 2, none⟩ (.bool y.s)).setCell ⟨w.heap.size, 3, none⟩ (sv y.u)).setCell ⟨w.heap.size, 4, none⟩ (sv y.t)) = w2 at *
  obtain ⟨i0, hi, hz0, hz1, hz2⟩ := info_parts info_nd
  have bd := (Below.refl w2.heap.size w2).drew
  have B3 := hide (Below.step1 B2.out bd)
  have QV := hide (HQ.out.step B3.out)
  have PQ := hide (N2.out.step bd)
  have YG3 := hide (Y2.out.step bd)
  have YG := hide (YG3.out.mono BB.out)
  have EF := hide (Efq.of (B := B) (g := g) (v := (VA, vn, vc)) B3.out BB.out)
  clear BL B2 N2 Y2 HQ B3 bd
  generalize hgb : w.heap.size = gb at *
  have GW := hide hgb
  clear hgb
  have KP := hide (show ∀ V, Below w2.drew.heap.size w2.drew V → _ ∧ _ from fun V h => And.intro (QV.out.step h).1.c (PQ.out.step h).all)
  refine wp_till (S := fun W => W.cell? ⟨g, 1, none⟩ = some (.slice VA vn vc) ∧ W.cell? ⟨gb, 0, none⟩ = some (.int .i64 n.id) ∧ W.cell? ⟨gb, 1, none⟩ = some (.int .i64 n.dp) ∧ W.cell? ⟨gb, 2, none⟩ = some (.bool y.s) ∧ W.cell? ⟨gb, 3, none⟩ = some (sv y.u) ∧ W.cell? ⟨gb, 4, none⟩ = some (sv y.t)) 8 (by kernel_rfl) ?_ (fun hHeld => ?_)
  · try dsimp only
    exact KP.out _ (Below.refl _ _)
  generalize w2.drew = V0 at *
  refine tpT 0 hHeld ?_
  try simp only [Act.put, s1, s2, s3, s4, s5, s6]
  refine tpT 1 hHeld ?_
  try simp only [Act.put, s1, s2, s3, s4, s5, s6]
  refine tkT 2 (v := ?_) hHeld ?_ ?_; rotate_left; (focus (intro w hSw; (try dsimp only at hSw); go_simp; (try with_reducible rfl)))
  try simp only [Act.put, s1, s2, s3, s4, s5, s6]
  refine tkT 3 (v := ?_) hHeld ?_ ?_; rotate_left; (focus (intro w hSw; (try dsimp only at hSw); go_simp; (try with_reducible rfl)))
  try simp only [Act.put, s1, s2, s3, s4, s5, s6]
  refine tkT 4 (v := ?_) hHeld ?_ ?_; rotate_left; (focus (intro w hSw; (try dsimp only at hSw); go_simp; (try with_reducible rfl)))
  try simp only [Act.put, s1, s2, s3, s4, s5, s6]
  refine tkT 5 (v := ?_) hHeld ?_ ?_; rotate_left; (focus (intro w hSw; (try dsimp only at hSw); go_simp; (try with_reducible rfl)))
  try simp only [Act.put, s1, s2, s3, s4, s5, s6]
  refine r1T 6 (fun K hK => ?_)
  go_simp; have bx := bal1 V0 (.cells #[.int .i64 n.id, .int .i64 n.dp, .bool y.s, sv y.u, sv y.t] 38); (try dsimp only); refine hK.out _ _ ?_ (fun hHeld => ?_); (focus ((try dsimp only); exact KP.out _ bx)); clear hK K
  try simp only [Act.put, s1, s2, s3, s4, s5, s6]
  try simp only [Act.put, s1, s2, s3, s4, s5, s6]
  refine r1T 7 (fun K hK => ?_)
  refine step_pushT rfl (.tmp 12) (.tmp 14) 29 rfl Tryz.underlying29 hi hz0 hz1 hz2 rfl (by omega) en_len en_one V0 B _ l ⟨n.id, n.dp, y⟩ _ rfl QV.out.2.2.1 rfl rfl LLEN.out LBYT.out (Nat.le_trans QV.out.2.1 (Nat.le_of_lt QV.out.1.lt)) ?_; intro v9 V2 ho hg; obtain ⟨A9, n9, c9, rfl⟩ := rv_sl (ho.rl en_len); obtain ⟨QN, PN, EN⟩ := QV.out.grow (v' := (A9, n9, c9)) (x := ⟨n.id, n.dp, y⟩) YG.out ho hg; replace QN := hide QN; replace PN := hide PN; replace EN := hide EN; have QK := hide ((hg.1.block gb PQ.out.lt (fun e => NB.out e.symm)).trans PQ.out); clear ho hg bx; (try dsimp only); refine hK.out _ _ ?_ (fun hHeld => ?_); (focus ((try dsimp only); exact And.intro QN.out.c (show Nq _ gb ⟨n.id, n.dp, y⟩ from QK.out).all)); clear hK K
  try simp only [Act.put, s1, s2, s3, s4, s5, s6]
  try simp only [Act.put, s1, s2, s3, s4, s5, s6]
  refine r1S 8 (fun K hK => ?_)
  go_simp; (try dsimp only); refine hK.out _ _ ?_; clear hK K
  try simp only [Act.put, s1, s2, s3, s4, s5, s6]
  try simp only [Act.put, s1, s2, s3, s4, s5, s6]
  refine r1S 9 (fun K hK => ?_)
  go_simp; (try dsimp only); refine hK.out _ _ ?_; clear hK K
  try simp only [Act.put, s1, s2, s3, s4, s5, s6]
  try simp only [Act.put, s1, s2, s3, s4, s5, s6]
  refine r1S 10 (fun K hK => ?_)
  have s1 := QN.out.c; have f1 := QN.out.fz 1; replace PN := hide (show Qo (V2.setCell ⟨g, 1, none⟩ (.slice A9 n9 c9)) B g o (A9, n9, c9) (l ++ [⟨n.id, n.dp, y⟩]) M from PN.out); replace EN := hide (show Efq _ (V2.setCell ⟨g, 1, none⟩ (.slice A9 n9 c9)) B g (VA, vn, vc) (A9, n9, c9) from EN.out); go_simp; clear s1 f1; generalize (V2.setCell ⟨g, 1, none⟩ (.slice A9 n9 c9)) = V5 at *; (try dsimp only); refine hK.out _ _ ?_; clear hK K
  try simp only [Act.put, s1, s2, s3, s4, s5, s6]
  refine Till.done (by kernel_rfl) ?_ _
  have YG2 := hide (YG3.out.efq EN.out QV.out.1.ot (fun b h => QV.out.2.2.1.otN b h))
  have PE := hide (EF.out.trans EN.out)
  have LQ := hide (show (l ++ [(⟨n.id, n.dp, y⟩ : Nx)]).length = n9 from (lr_nQ PN.out.rd).1.symm)
  have N1 := hide (show n9 = l.length + 1 by rw [← LQ.out]; simp)
  have q4 : V5.cell? ⟨g, 1, none⟩ = some (.slice A9 n9 c9) := PN.out.1.c
  have e9 : IntKind.i64.wrap ((n9 : Int) - 1) = (l.length : Int) := (by rw [IntWalk.i64_in _ (by have := N1.out; have := LLEN.out; omega)]; have := N1.out; omega)
  go_wp2_with fail
  refine (qrise_c (k := l.length) PN.out (by simp) h1 hM).mono ?_
  rintro e w5 ⟨rfl, l5, q5, p5, h5, ef5⟩
  have FIN := hide (show PuRet w B g o (VA, vn, vc) l M n (.returned (.tuple #[])) w5 from ⟨rfl, (A9, n9, c9), l5, y, EY.out, (by rw [GW.out]; exact YG2.out.efq ef5 PN.out.1.ot (fun b h => PN.out.2.2.1.otN b h)), q5, p5.trans (List.perm_append_comm (l₁ := l) (l₂ := [⟨n.id, n.dp, y⟩])), fun h => by
    have h9 := h5 (l.length + 1) (by omega) (by simp) (h.push ⟨n.id, n.dp, y⟩)
    rw [p5.length_eq]
    simpa using h9, PE.out.trans ef5⟩)
  clear q5 p5 h5 ef5 q4
  go_wp2_with fail
  go_end0
  exact FIN.out
end Go.Proofs.YtpfeacdhplbblaaGreat
