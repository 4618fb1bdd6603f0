
/-
  Queues: the reference's Push.
-/
import Derived.Test.YtpfeacdhplbblaaGreatBundleY
import Derived.Test.YtpfeacdhplbblaaGreatBundleH
import Derived.Test.YtpfeacdhplbblaaGreatKdr3
import Derived.Test.YtpfeacdhplbblaaGreatQs1
import Derived.Deep.DeepCutAuto
import Derived.BigRegion
import Derived.Deep.RegionHeld3
import Derived.BigQuiet


namespace Go.Proofs.YtpfeacdhplbblaaGreat
open Go.RowKit Go.Proofs.YtpfeacdhplbblaaGreat.Num
set_option linter.unusedVariables false
set_option linter.unusedSimpArgs false
set_option maxRecDepth 100000
theorem step_push9 {ops : Array Oper} {o : Oper} {a : Act} {K : Act → World → Prop} {Q : Exit → Act → World → Prop} {E : Prop} (hgd : o.guard = none) (s y : Operand)
    (ho : o.op = .call { callee := .builtin .append, args := #[s, y], argTypes := #[29, 29] })
    {W : World} {B : Nat} {v : Sl} {l : List Nx} (hl : Rl9 W B v l) (x : Nx) (cs : Array Value) (hcs : cs.toList = en x) (hs : a.eval s = sv v) (hy : a.eval y = .slice (some ⟨W.heap.size, 0, none⟩) 1 1)
    (hlen : l.length + 1 ≤ 1800000000000) (hB : B ≤ W.heap.size)
    (h : ∀ (v' : Sl) W', Rl9 W' B v' (l ++ [x]) → W.grownBy W' (sv v).ownBlock → ((sv v').ownBlock = (sv v).ownBlock ∨ ∀ b, (sv v').ownBlock = some b → W.heap.size ≤ b) → K (a.put o.dst (sv v')) W') :
    if Region.wanted o (yielded ops a.tmps) = true then Oper.wp Tryz.prog o a (W.alloc (.cells cs 38)) K Q else E := by
  rw [if_pos (by simp [Region.wanted, hgd])]
  obtain ⟨v', w', hr, h2, h3, h4⟩ := run_push9 hl x cs hcs hlen hB o.type
  unfold Oper.wp execOp
  simp only [ho, resolve, invoke, builtin, Sem.run_bind, Sem.run_pure, Result.andThen_ok, List.map_toArray, List.map_cons, List.map_nil, hs, hy, hr]
  exact h v' w' h2 h3 h4
theorem Ro.grow {W W' : World} {B g : Nat} {o : Int} {v v' : Sl} {l : List Nx} {x : Nx} (h : Ro W B g o v l) (hx : Rg W B x.x 6) (ho : Rl9 W' B v' (l ++ [x])) (hg : W.grownBy W' (sv v).ownBlock) (hv : (sv v').ownBlock = (sv v).ownBlock ∨ ∀ b, (sv v').ownBlock = some b → W.heap.size ≤ b) :
    Rk W' g o v ∧ Ro (W'.setCell ⟨g, 1, none⟩ (sv v')) B g o v' (l ++ [x]) ∧ Efq W (W'.setCell ⟨g, 1, none⟩ (sv v')) B g v v' := by
  have q' : Rk W' g o v := (hg.block g h.1.lt (fun e => h.ne e.symm)).trans h.1
  have hne : (sv v').ownBlock ≠ some g := fun e => by
    rcases hv with hv | hv
    · exact h.ne (hv ▸ e)
    · have := hv g e; have := h.1.lt; omega
  refine ⟨q', ⟨q'.put v', h.2.1, ho.same (fun b e => (only_set1 W' g 1 (sv v')).block b (ho.blk e).2.1 (fun e2 => hne (by rw [e, e2]))), fun y hy => ?_⟩, ((Below.refl B W).grown hg (Nat.le_trans h.2.1 (Nat.le_of_lt h.1.lt)) (fun b hb => (h.2.2.1.blk hb).1)).setCell (p := ⟨g, 1, none⟩) h.2.1 _, fun b hb hbg hbv => ?_, hv⟩
  · have key : Rg W B y.x 6 := by
      rcases List.mem_append.1 hy with hy | hy
      · exact h.2.2.2 y hy
      · simp at hy
        subst hy
        exact hx
    exact (key.grownT hg (fun g' e => (h.2.2.1.blk e).2.2.1)).grownT (only_set1 W' g 1 (sv v')) (fun g' e => by injection e with e; subst e; exact q'.ot)
  · exact ((only_set1 W' g 1 (sv v')).block b (Nat.lt_of_lt_of_le hb hg.size) (fun e => hbg (Option.some.inj e))).trans (hg.block b hb (fun e => hbv e.symm))
theorem Ro.set {W : World} {B g a i n c : Nat} {o : Int} {l : List Nx} {j : Nat} {x : Nx} (h : Ro W B g o (some ⟨a, i, none⟩, n, c) l) (hj : j < l.length) (hx : Rg W B x.x 6) :
    Ro (put5n W a (i + j * 5) x) B g o (some ⟨a, i, none⟩, n, c) (l.set j x) ∧ Efq W (put5n W a (i + j * 5) x) B g (some ⟨a, i, none⟩, n, c) (some ⟨a, i, none⟩, n, c) := by
  have hn : n = l.length := h.2.2.1.1
  have hnc : n ≤ c := h.2.2.1.2.2.1
  obtain ⟨a2, i2, e, h5⟩ := h.2.2.1.five (by dsimp only; omega)
  injection e with e
  injection e with e1 e2
  subst e1 e2
  dsimp only at h5
  have hag : a ≠ g := fun e => h.ne (by rw [← e]; rfl)
  have oa : Ot W a := (h.2.2.1.blk rfl).2.2.1
  have hBa : B ≤ a := (h.2.2.1.blk rfl).1
  have s1 := (h5.set (j := j) x (by omega)).rl
  have o1 := only_put5n W a (i + j * 5) x
  have b1 : Below B W (put5n W a (i + j * 5) x) := below_put5n (Below.refl _ _) hBa _ _
  have k1 : Rk (put5n W a (i + j * 5) x) g o (some ⟨a, i, none⟩, n, c) := (o1.block g h.1.lt (fun e => hag (Option.some.inj e).symm)).trans h.1
  generalize put5n W a (i + j * 5) x = W' at *
  refine ⟨⟨k1, h.2.1, s1, fun z hz => ?_⟩, b1, fun b hb hbg hv => ?_, .inl rfl⟩
  · have key : Rg W B z.x 6 := by
      rcases List.mem_or_eq_of_mem_set hz with hz | rfl
      · exact h.2.2.2 z hz
      · exact hx
    exact key.grownT o1 (fun g' e => by injection e with e; subst e; exact oa)
  · exact o1.block b hb (fun e => hv (by rw [e]; rfl))
theorem Ro.cells {W : World} {B g a i n c : Nat} {o : Int} {l : List Nx} {j : Nat} {x : Nx} (h : Ro W B g o (some ⟨a, i, none⟩, n, c) l) (hx : l[j]? = some x) :
    W.cell? ⟨a, i + j * 5, none⟩ = some (.int .i64 x.id) ∧ W.cell? ⟨a, i + j * 5 + 1, none⟩ = some (.int .i64 x.dp) ∧ W.cell? ⟨a, i + j * 5 + 2, none⟩ = some (.bool x.x.s) ∧ W.cell? ⟨a, i + j * 5 + 3, none⟩ = some (sv x.x.u) ∧ W.cell? ⟨a, i + j * 5 + 4, none⟩ = some (sv x.x.t) := by
  have hn : n = l.length := h.2.2.1.1
  have hnc : n ≤ c := h.2.2.1.2.2.1
  have hjl := (List.getElem?_eq_some_iff.1 hx).1
  obtain ⟨a2, i2, e, h5⟩ := h.2.2.1.five (by dsimp only; omega)
  injection e with e
  injection e with e1 e2
  subst e1 e2
  exact h5.cells hx
theorem Ro.fzs {W : World} {B g a i n c : Nat} {o : Int} {l : List Nx} (h : Ro W B g o (some ⟨a, i, none⟩, n, c) l) (j : Nat) : W.frozen? ⟨a, j, none⟩ = false := by
  obtain ⟨-, -, -, cur, hh⟩ := h.2.2.1.blk rfl
  exact frozen_of_row W a j cur _ hh
def RuRet (w : World) (B g : Nat) (o : Int) (v : Sl) (l : List Nx) (n : Nx) (e : Ending) (w' : World) : Prop :=
  e = .returned (.tuple #[]) ∧ ∃ (v' : Sl) (L : List Nx) (y : Rx) (k : Nat), y.r = n.x.r ∧ Rg w' w.heap.size y 6 ∧ Ro w' B g o v' L ∧ Ins (ah o) l ⟨n.id, n.dp, y⟩ k L ∧ (k = 0 ∨ ∃ j a, k = j + 1 ∧ L[j]? = some a ∧ ¬ ah o ⟨n.id, n.dp, y⟩ a) ∧ Efq w w' B g v v'
theorem Rg.efr {W W' : World} {B B' g : Nat} {o : Int} {v v' : Sl} {l : List Nx} {x : Rx} {L : Nat} (h : Rg W B' x L) (he : Efq W W' B g v v') (hq : Ro W B g o v l) : Rg W' B' x L :=
  h.efq he hq.1.ot (fun b e => (hq.2.2.1.blk e).2.2.1)
set_option maxHeartbeats 16000000 in
theorem rpush_c {w : World} {B g : Nat} {o : Int} {v : Sl} {l : List Nx} {n : Nx} (hq : Ro w B g o v l) (hn : Ra w (rx n.x) n.x.r 6) (hL : l.length + 1 ≤ 1800000000000) :
    Calls Tryz.prog 10 #[.pointer (some ⟨g, 0, none⟩), nx n] w (RuRet w B g o v l n) := by
  obtain ⟨VA, vn, vc⟩ := v
  have SX := hide (hn.sz (by omega))
  have SZ := hide (show (w.alloc (nbox n)).heap.size = w.heap.size + 1 by simp)
  have b0 := bal1 w (nbox n)
  have b1 := bal1 (w.alloc (nbox n)) (nbox n)
  have N0 := hide ((Nq.new w n).step b1)
  have NQ := hide (show Nq ((w.alloc (nbox n)).alloc (nbox n)) (w.heap.size + 1) n by rw [← SZ.out]; exact Nq.new _ n)
  have BL := hide (Below.step b0 b0.size b1)
  have HQ := hide (hq.step BL.out)
  have HN := hide (hn.step BL.out)
  have NB := hide (show (sv (VA, vn, vc)).ownBlock ≠ some (w.heap.size + 1) from fun e => by have := (hq.2.2.1.blk e).2.1; omega)
  have BB := hide (show B ≤ w.heap.size from Nat.le_trans hq.2.1 (Nat.le_of_lt hq.1.lt))
  have LLEN := hide (show l.length + 1 ≤ 1800000000000 by omega)
  have GB := hide (show g ≠ w.heap.size + 1 by have := hq.1.lt; omega)
  clear b0 b1 hq hn
  obtain ⟨p0, p1, p2, p3, p4⟩ := N0.out.all
  obtain ⟨r0, r1, r2, r3, r4⟩ := (Nq.new w n).all
  go_enter Tryz.func10, Tryz.ntmps10
  go_wp2_with fail
  clear r0 r1 r2 r3 r4
  generalize ((w.alloc (nbox n)).alloc (nbox n)) = w0 at *
  refine (rof_f (L := 6) HN.out (by omega) (by omega)).mono ?_
  rintro e w1 ⟨ya, rfl, ha, ra, bx⟩
  have NQ1 := NQ.out.step bx
  have HA := hide ha
  have RA := hide ra
  replace HQ := hide (HQ.out.step bx)
  replace BL := hide (Below.step1 BL.out bx)
  clear bx ha ra p0 p1 p2 p3 p4 N0 HN
  go_wp2_with fail
  refine (rfto_g RA.out (by omega)).mono ?_
  rintro e w2 ⟨y, rfl, ey, gy, bx⟩
  replace NQ1 := NQ1.step bx
  obtain ⟨-, -, c2, c3, c4⟩ := NQ1.all
  have f2 := NQ1.fz 2
  have f3 := NQ1.fz 3
  have f4 := NQ1.fz 4
  have EY := hide (show y.r = n.x.r by rw [ey, HA.out])
  have GY := hide (show Rg w2 w.heap.size y 6 from (gy.mono (B' := w.heap.size) BL.out.size).fit (by rw [EY.out]; exact SX.out))
  replace HQ := hide (HQ.out.step bx)
  replace BL := hide (Below.step1 BL.out bx)
  have N2 := hide (nq_put NQ1 y)
  have B2 := hide (((BL.out.setCell (p := ⟨w.heap.size + 1, 2, none⟩) (Nat.le_succ _) (.bool y.s)).setCell (p := ⟨w.heap.size + 1, 3, none⟩) (Nat.le_succ _) (sv y.u)).setCell (p := ⟨w.heap.size + 1, 4, none⟩) (Nat.le_succ _) (sv y.t))
  have Y2 := hide (GY.out.grownT (only_set3 w2 (w.heap.size + 1) y) (fun g' e => by injection e with e; subst e; exact NQ1.otq))
  have Q2 := hide (show Ro _ B g o (VA, vn, vc) l from HQ.out.ch (S := fun b => b = w.heap.size + 1) ⟨(only_set3 w2 (w.heap.size + 1) y).size, fun b hb hn => (only_set3 w2 (w.heap.size + 1) y).block b hb (fun e => hn (Option.some.inj e))⟩ GB.out (fun b e e2 => NB.out (by rw [e, e2])) (fun x hx => (HQ.out.2.2.2 x hx).nsx (fun b e => by subst e; exact NQ1.otq)))
  clear bx ey gy NQ1 NQ HQ HA RA GY
  go_wp2_with fail
  clear c2 c3 c4 f2 f3 f4
  generalize (((w2.setCell ⟨w.heap.size + 1, 2, none⟩ (.bool y.s)).setCell ⟨w.heap.size + 1, 3, none⟩ (sv y.u)).setCell ⟨w.heap.size + 1, 4, none⟩ (sv y.t)) = w3 at *
  have bd := (Below.refl w3.heap.size w3).drew
  have B3 := hide (Below.step1 B2.out bd)
  have QV := hide (Q2.out.step bd)
  have PQ := hide (N2.out.step bd)
  have YG3 := hide (Y2.out.step bd)
  have YG := hide (YG3.out.mono BB.out)
  have EF := hide (Efq.of (B := B) (g := g) (v := (VA, vn, vc)) B3.out BB.out)
  clear BL B2 N2 Y2 Q2 B3 bd
  generalize hgb : w.heap.size + 1 = gb at *
  clear hgb SZ
  have KP := hide (show ∀ V, Below w3.drew.heap.size w3.drew V → _ ∧ _ from fun V h => And.intro (QV.out.step h).1.c (PQ.out.step h).all)
  refine wp_till (S := fun W => W.cell? ⟨g, 1, none⟩ = some (.slice VA vn vc) ∧ W.cell? ⟨gb, 0, none⟩ = some (.int .i64 n.id) ∧ W.cell? ⟨gb, 1, none⟩ = some (.int .i64 n.dp) ∧ W.cell? ⟨gb, 2, none⟩ = some (.bool y.s) ∧ W.cell? ⟨gb, 3, none⟩ = some (sv y.u) ∧ W.cell? ⟨gb, 4, none⟩ = some (sv y.t)) 8 (by kernel_rfl) ?_ (fun hHeld => ?_)
  · try dsimp only
    exact KP.out _ (Below.refl _ _)
  generalize w3.drew = V0 at *
  refine tpT 0 hHeld ?_
  try simp only [Act.put, s1, s2, s3, s4, s5, s6]
  refine tpT 1 hHeld ?_
  try simp only [Act.put, s1, s2, s3, s4, s5, s6]
  refine tkT 2 (v := ?_) hHeld ?_ ?_; rotate_left; (focus (intro w hSw; (try dsimp only at hSw); go_simp; (try with_reducible rfl)))
  try simp only [Act.put, s1, s2, s3, s4, s5, s6]
  refine tkT 3 (v := ?_) hHeld ?_ ?_; rotate_left; (focus (intro w hSw; (try dsimp only at hSw); go_simp; (try with_reducible rfl)))
  try simp only [Act.put, s1, s2, s3, s4, s5, s6]
  refine tkT 4 (v := ?_) hHeld ?_ ?_; rotate_left; (focus (intro w hSw; (try dsimp only at hSw); go_simp; (try with_reducible rfl)))
  try simp only [Act.put, s1, s2, s3, s4, s5, s6]
  refine tkT 5 (v := ?_) hHeld ?_ ?_; rotate_left; (focus (intro w hSw; (try dsimp only at hSw); go_simp; (try with_reducible rfl)))
  try simp only [Act.put, s1, s2, s3, s4, s5, s6]
  refine r1T 6 (fun K hK => ?_)
  go_simp; have bx := bal1 V0 (.cells #[.int .i64 n.id, .int .i64 n.dp, .bool y.s, sv y.u, sv y.t] 38); (try dsimp only); refine hK.out _ _ ?_ (fun hHeld => ?_); (focus ((try dsimp only); exact KP.out _ bx)); clear hK K
  try simp only [Act.put, s1, s2, s3, s4, s5, s6]
  try simp only [Act.put, s1, s2, s3, s4, s5, s6]
  refine r1T 7 (fun K hK => ?_)
  refine step_push9 rfl (.tmp 17) (.tmp 19) rfl (v := (VA, vn, vc)) QV.out.2.2.1 ⟨n.id, n.dp, y⟩ _ rfl rfl rfl LLEN.out (Nat.le_trans QV.out.2.1 (Nat.le_of_lt QV.out.1.lt)) ?_; intro v9 V2 ho hg hv; obtain ⟨A9, n9, c9⟩ := v9; obtain ⟨QN, PN, EN⟩ := QV.out.grow (x := ⟨n.id, n.dp, y⟩) YG.out ho hg hv; replace QN := hide QN; replace PN := hide PN; replace EN := hide EN; have QK := hide ((hg.block gb PQ.out.lt (fun e => NB.out e.symm)).trans PQ.out); clear ho hg hv bx; (try dsimp only); refine hK.out _ _ ?_ (fun hHeld => ?_); (focus ((try dsimp only); exact And.intro QN.out.c (show Nq _ gb ⟨n.id, n.dp, y⟩ from QK.out).all)); clear hK K
  try simp only [Act.put, s1, s2, s3, s4, s5, s6]
  try simp only [Act.put, s1, s2, s3, s4, s5, s6]
  refine r1S 8 (fun K hK => ?_)
  go_simp; (try dsimp only); refine hK.out _ _ ?_; clear hK K
  try simp only [Act.put, s1, s2, s3, s4, s5, s6]
  try simp only [Act.put, s1, s2, s3, s4, s5, s6]
  refine r1S 9 (fun K hK => ?_)
  go_simp; (try dsimp only); refine hK.out _ _ ?_; clear hK K
  try simp only [Act.put, s1, s2, s3, s4, s5, s6]
  try simp only [Act.put, s1, s2, s3, s4, s5, s6]
  refine r1S 10 (fun K hK => ?_)
  have s1 := QN.out.c; have f1 := QN.out.fz 1; replace PN := hide (show Ro (V2.setCell ⟨g, 1, none⟩ (.slice A9 n9 c9)) B g o (A9, n9, c9) (l ++ [⟨n.id, n.dp, y⟩]) from PN.out); replace EN := hide (show Efq _ (V2.setCell ⟨g, 1, none⟩ (.slice A9 n9 c9)) B g (VA, vn, vc) (A9, n9, c9) from EN.out); go_simp; clear s1 f1; generalize (V2.setCell ⟨g, 1, none⟩ (.slice A9 n9 c9)) = V5 at *; (try dsimp only); refine hK.out _ _ ?_; clear hK K
  try simp only [Act.put, s1, s2, s3, s4, s5, s6]
  refine Till.done (by kernel_rfl) ?_ _
  have YG2 := hide (YG3.out.efr EN.out QV.out)
  have PE := hide (EF.out.trans EN.out)
  have N1 := hide (show n9 = l.length + 1 by have := PN.out.2.2.1.1; simpa using this)
  have q4 : V5.cell? ⟨g, 1, none⟩ = some (.slice A9 n9 c9) := PN.out.1.c
  have e9 : IntKind.i64.wrap ((n9 : Int) - 1) = (l.length : Int) := (by rw [IntWalk.i64_in _ (by have := N1.out; have := LLEN.out; omega)]; have := N1.out; omega)
  have IN0 := hide (Ins.start (ah o) l ⟨n.id, n.dp, y⟩)
  obtain ⟨a9, i9, eA, -⟩ := PN.out.2.2.1.five (by have := PN.out.2.2.1.2.2.1; dsimp only at this ⊢; have := N1.out; omega)
  dsimp only at eA
  subst eA
  clear EF EN QV PQ YG3 YG KP
  obtain ⟨ll, hll⟩ : ∃ ll, ll = l.length := ⟨_, rfl⟩
  rw [← hll] at IN0 e9
  have HL := hide hll
  clear hll
  go_wp2_with fail
  go_loopw [5] (fun kv wr => ∃ (k : Nat) (L : List Nx), kv = .int .i64 (k : Int) ∧ k ≤ ll ∧ Hid (Efq w wr B g (VA, vn, vc) (some ⟨a9, i9, none⟩, n9, c9)) ∧ Hid (Rg wr w.heap.size y 6) ∧ Hid (Ro wr B g o (some ⟨a9, i9, none⟩, n9, c9) L) ∧ Hid (Ins (ah o) l ⟨n.id, n.dp, y⟩ k L)) (fun kv _ => (intOf kv).toNat)
  case atStart => exact ⟨ll, l ++ [⟨n.id, n.dp, y⟩], rfl, Nat.le_refl _, PE, YG2, PN, IN0⟩
  case round =>
    clear PE YG2 PN IN0
    obtain ⟨k, L, rfl, hk, PE, YG, RO, IN⟩ := hrel
    rcases Nat.eq_zero_or_pos k with hk0 | hk0
    · subst hk0
      have t1 : decide ((0 : Int) < ((0 : Nat) : Int)) = false := by decide
      have t2 : decide (0 < 0) = false := by decide
      have FIN := hide (show ∀ W, Below wr.heap.size wr W → RuRet w B g o (VA, vn, vc) l n (.returned (.tuple #[])) W from fun W h => ⟨rfl, _, L, y, 0, EY.out, YG.out.step h, RO.out.step h, IN.out, .inl rfl, PE.out.step h (Nat.le_trans BB.out PE.out.1.size)⟩)
      clear PE YG RO IN
      go_wp2_with fail
      go_quiet (fail)
      all_goals
        go_wp2_with fail
        go_end0
        exact FIN.out _ (below_drewN (Below.refl _ _) _)
    · obtain ⟨j, hj⟩ : ∃ j, k = j + 1 := ⟨k - 1, by omega⟩
      have HJ := hide hj
      have hx : L[k]? = some ⟨n.id, n.dp, y⟩ := IN.out.get
      have hkL := (List.getElem?_eq_some_iff.1 hx).1
      obtain ⟨u, hu⟩ := len_of (d := L) (k := j) (by omega)
      have HX := hide hx
      have HU := hide hu
      have HK := hide hkL
      have l1 : (0 : Int) < (k : Int) := by omega
      have t1 : decide ((0 : Int) < (k : Int)) = true := decide_eq_true (by omega)
      have t2 : decide (0 < k) = true := decide_eq_true (by omega)
      have hn9 : n9 = L.length := RO.out.2.2.1.1
      have hc9 : n9 ≤ c9 ∧ c9 ≤ 9223372036854775807 := ⟨RO.out.2.2.1.2.2.1, by have := RO.out.2.2.1.2.1; unfold maxLen at this; exact this⟩
      have i1 : (0 : Int) ≤ (k : Int) := by omega
      have i2 : (k : Int) < (n9 : Int) := by omega
      have e1 : IntKind.i64.wrap ((k : Int) - 1) = (j : Int) := by rw [IntWalk.i64_in _ (by omega)]; omega
      have j1 : (0 : Int) ≤ (j : Int) := by omega
      have j2 : (j : Int) < (n9 : Int) := by omega
      have D := hide (Below.refl wr.heap.size wr).drew
      have RD := hide (RO.out.step D.out)
      have YD := hide (YG.out.step D.out)
      have PD := hide (PE.out.step D.out (Nat.le_trans BB.out PE.out.1.size))
      have CX := hide (show ∀ W, Below wr.drew.heap.size wr.drew W → (W.cell? ⟨g, 0, none⟩ = some (.int .i64 o) ∧ W.cell? ⟨g, 1, none⟩ = some (.slice (some ⟨a9, i9, none⟩) n9 c9)) ∧ (W.cell? ⟨a9, i9 + k * 5, none⟩ = some (.int .i64 n.id) ∧ W.cell? ⟨a9, i9 + k * 5 + 1, none⟩ = some (.int .i64 n.dp) ∧ W.cell? ⟨a9, i9 + k * 5 + 2, none⟩ = some (.bool y.s) ∧ W.cell? ⟨a9, i9 + k * 5 + 3, none⟩ = some (sv y.u) ∧ W.cell? ⟨a9, i9 + k * 5 + 4, none⟩ = some (sv y.t)) ∧ (W.cell? ⟨a9, i9 + j * 5, none⟩ = some (.int .i64 u.id) ∧ W.cell? ⟨a9, i9 + j * 5 + 1, none⟩ = some (.int .i64 u.dp) ∧ W.cell? ⟨a9, i9 + j * 5 + 2, none⟩ = some (.bool u.x.s) ∧ W.cell? ⟨a9, i9 + j * 5 + 3, none⟩ = some (sv u.x.u) ∧ W.cell? ⟨a9, i9 + j * 5 + 4, none⟩ = some (sv u.x.t)) from fun W h => ⟨⟨(RD.out.step h).1.c0, (RD.out.step h).1.c⟩, (RD.out.step h).cells HX.out, (RD.out.step h).cells HU.out⟩)
      have RX := hide (show Ra wr.drew (rx (⟨n.id, n.dp, y⟩ : Nx).x) (⟨n.id, n.dp, y⟩ : Nx).x.r 6 from (RD.out.2.2.2 _ (List.mem_of_getElem? hx)).ra)
      have RU := hide ((RD.out.2.2.2 u (List.mem_of_getElem? hu)).ra)
      have B6 := hide (Below.refl wr.drew.heap.size wr.drew)
      clear hx hu hkL D RO YG PE hn9 hj
      go_wp2_with fail
      go_region_held3 (fun W => (W.cell? ⟨g, 0, none⟩ = some (.int .i64 o) ∧ W.cell? ⟨g, 1, none⟩ = some (.slice (some ⟨a9, i9, none⟩) n9 c9)) ∧ (W.cell? ⟨a9, i9 + k * 5, none⟩ = some (.int .i64 n.id) ∧ W.cell? ⟨a9, i9 + k * 5 + 1, none⟩ = some (.int .i64 n.dp) ∧ W.cell? ⟨a9, i9 + k * 5 + 2, none⟩ = some (.bool y.s) ∧ W.cell? ⟨a9, i9 + k * 5 + 3, none⟩ = some (sv y.u) ∧ W.cell? ⟨a9, i9 + k * 5 + 4, none⟩ = some (sv y.t)) ∧ (W.cell? ⟨a9, i9 + j * 5, none⟩ = some (.int .i64 u.id) ∧ W.cell? ⟨a9, i9 + j * 5 + 1, none⟩ = some (.int .i64 u.dp) ∧ W.cell? ⟨a9, i9 + j * 5 + 2, none⟩ = some (.bool u.x.s) ∧ W.cell? ⟨a9, i9 + j * 5 + 3, none⟩ = some (sv u.x.u) ∧ W.cell? ⟨a9, i9 + j * 5 + 4, none⟩ = some (sv u.x.t)))
        (with_reducible exact CX.out _ B6.out)
        (first
          | (go_at_call 28; refine Calls.mono (rahead_c (o := o) (x := ⟨n.id, n.dp, y⟩) (y := u) (RX.out) (RU.out)) ?_; rintro e wx ⟨⟨s, rfl, hs⟩, bx⟩; have HS := hide hs; replace B6 := hide (Below.step1 B6.out bx); clear bx hs))
      all_goals
        replace RD := hide (RD.out.step B6.out)
        replace YD := hide (YD.out.step B6.out)
        replace PD := hide (PD.out.step B6.out (Nat.le_trans BB.out PD.out.1.size))
        obtain ⟨⟨q0, q1⟩, ⟨x0, x1, x2, x3, x4⟩, ⟨y0, y1, y2, y3, y4⟩⟩ := CX.out _ B6.out
        clear CX RX RU B6
        cases s with
        | false =>
          have FIN := hide (show RuRet w B g o (VA, vn, vc) l n (.returned (.tuple #[])) wx from ⟨rfl, _, L, y, k, EY.out, YD.out, RD.out, IN.out, .inr ⟨j, u, HJ.out, HU.out, fun h => by have := HS.out.2 h; cases this⟩, PD.out⟩)
          clear YD RD PD
          go_wp2_with fail
          go_end0
          exact FIN.out
        | true =>
          have IN2 := hide (show Ins (ah o) l ⟨n.id, n.dp, y⟩ j ((L.set k u).set j ⟨n.id, n.dp, y⟩) by
            have h := IN.out
            have hah := HS.out.1 (by trivial)
            rw [HJ.out] at h ⊢
            exact h.swap HU.out hah)
          have bx7 := bal1 wx (nbox ⟨n.id, n.dp, y⟩)
          have XB := hide (Nq.new wx ⟨n.id, n.dp, y⟩)
          have AX := hide (show a9 < wx.heap.size from (RD.out.2.2.1.blk rfl).2.1)
          have MX := hide (show (⟨n.id, n.dp, y⟩ : Nx) ∈ L from List.mem_of_getElem? HX.out)
          have MU := hide (show u ∈ L from List.mem_of_getElem? HU.out)
          have R7 := hide (RD.out.step bx7)
          have Y7 := hide (YD.out.step bx7)
          have P7 := hide (PD.out.step bx7 (Nat.le_trans BB.out PD.out.1.size))
          clear RD YD PD bx7 IN HS
          go_wp2_with fail
          clear q0 q1 x0 x1 x2 x3 x4 y0 y1 y2 y3 y4
          generalize hgx : wx.heap.size = gx at *
          generalize (wx.alloc (nbox ⟨n.id, n.dp, y⟩)) = w7 at *
          have q1 : w7.cell? ⟨g, 1, none⟩ = some (.slice (some ⟨a9, i9, none⟩) n9 c9) := R7.out.1.c
          obtain ⟨x0, x1, x2, x3, x4⟩ := R7.out.cells HX.out
          obtain ⟨y0, y1, y2, y3, y4⟩ := R7.out.cells HU.out
          have f0 := R7.out.fzs (i9 + k * 5)
          have f1 := R7.out.fzs (i9 + k * 5 + 1)
          have f2 := R7.out.fzs (i9 + k * 5 + 2)
          have f3 := R7.out.fzs (i9 + k * 5 + 3)
          have f4 := R7.out.fzs (i9 + k * 5 + 4)
          have S8 := R7.out.set (j := k) (x := u) HK.out (R7.out.2.2.2 u MU.out)
          have d8 := (Below.refl (put5n w7 a9 (i9 + k * 5) u).heap.size (put5n w7 a9 (i9 + k * 5) u)).drew
          have oa := (R7.out.2.2.1.blk rfl).2.2.1
          have o8 := only_put5n w7 a9 (i9 + k * 5) u
          have R8 := hide (S8.1.step d8)
          have Y8 := hide (((Y7.out.grownT o8 (fun g' e => by injection e with e; subst e; exact oa))).step d8)
          have P8 := hide ((P7.out.trans S8.2).step d8 (Nat.le_trans (Nat.le_trans BB.out P7.out.1.size) S8.2.1.size))
          have XB8 := hide ((XB.out.off o8 (by have := AX.out; omega)).step d8)
          have RX8 := hide (show Rg (put5n w7 a9 (i9 + k * 5) u).drew B (⟨n.id, n.dp, y⟩ : Nx).x 6 from ((R7.out.2.2.2 _ MX.out).grownT o8 (fun g' e => by injection e with e; subst e; exact oa)).step d8)
          clear S8 d8 oa o8 R7 Y7 P7 XB
          go_region
          all_goals
            go_wp2_with fail
            clear q1 x0 x1 x2 x3 x4 y0 y1 y2 y3 y4 f0 f1 f2 f3 f4
            generalize (put5n w7 a9 (i9 + k * 5) u).drew = w8 at *
            have HUL := hide (show j < (L.set k u).length by rw [List.length_set]; have := (List.getElem?_eq_some_iff.1 HU.out).1; omega)
            have q1 : w8.cell? ⟨g, 1, none⟩ = some (.slice (some ⟨a9, i9, none⟩) n9 c9) := R8.out.1.c
            have hu2 : (L.set k u)[j]? = some u := by rw [List.getElem?_set_ne (by have := HJ.out; omega)]; exact HU.out
            obtain ⟨y0, y1, y2, y3, y4⟩ := R8.out.cells hu2
            obtain ⟨x0, x1, x2, x3, x4⟩ := XB8.out.all
            have f0 := R8.out.fzs (i9 + j * 5)
            have f1 := R8.out.fzs (i9 + j * 5 + 1)
            have f2 := R8.out.fzs (i9 + j * 5 + 2)
            have f3 := R8.out.fzs (i9 + j * 5 + 3)
            have f4 := R8.out.fzs (i9 + j * 5 + 4)
            have S9 := R8.out.set (j := j) (x := ⟨n.id, n.dp, y⟩) HUL.out RX8.out
            have d9 := (Below.refl (put5n w8 a9 (i9 + j * 5) ⟨n.id, n.dp, y⟩).heap.size (put5n w8 a9 (i9 + j * 5) ⟨n.id, n.dp, y⟩)).drew
            have oa := (R8.out.2.2.1.blk rfl).2.2.1
            have o9 := only_put5n w8 a9 (i9 + j * 5) ⟨n.id, n.dp, y⟩
            have R9 := hide (S9.1.step d9)
            have Y9 := hide (((Y8.out.grownT o9 (fun g' e => by injection e with e; subst e; exact oa))).step d9)
            have P9 := hide ((P8.out.trans S9.2).step d9 (Nat.le_trans (Nat.le_trans BB.out P8.out.1.size) S9.2.1.size))
            clear S9 d9 oa o9 R8 Y8 P8 XB8 RX8 hu2
            go_region
            all_goals
              go_wp2_with fail
              exact ⟨⟨j, (L.set k u).set j ⟨n.id, n.dp, y⟩, rfl, by have := HJ.out; omega, P9, Y9, R9, IN2⟩, by simp [intOf]; have := HJ.out; omega⟩
end Go.Proofs.YtpfeacdhplbblaaGreat
