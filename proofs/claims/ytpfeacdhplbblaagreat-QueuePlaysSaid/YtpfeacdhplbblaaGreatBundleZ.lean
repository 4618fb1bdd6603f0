/-
  Shared texts, one behind the other: Qr4, Qr5, Qr6.
-/
import Derived.Test.YtpfeacdhplbblaaGreatBundleY
import Derived.Test.YtpfeacdhplbblaaGreatBundleX
import Derived.Test.YtpfeacdhplbblaaGreatBundleG
import Derived.Test.YtpfeacdhplbblaaGreatQu11
import Derived.Test.YtpfeacdhplbblaaGreatBundleH
import Derived.Test.YtpfeacdhplbblaaGreatBundleN
import Derived.Test.YtpfeacdhplbblaaGreatQr3
import Derived.BigQuiet
import Derived.Deep.DeepCutAuto
import Derived.BigRegion
import Derived.Deep.RegionHeld3

namespace Go.Proofs.YtpfeacdhplbblaaGreat
open Go.RowKit Go.Proofs.YtpfeacdhplbblaaGreat.Num
set_option linter.unusedVariables false
set_option linter.unusedSimpArgs false
set_option maxRecDepth 100000
theorem rpop0_c {w : World} {B g : Nat} {o : Int} {v : Sl} (hq : Ro w B g o v []) :
    Calls Tryz.prog 12 #[.pointer (some ⟨g, 0, none⟩)] w fun e w' => e = .returned (.tuple #[nx znx, .bool false]) ∧ Below w.heap.size w w' := by
  obtain ⟨VA, vn, vc⟩ := v
  have VN : vn = 0 := hq.2.2.1.1
  have c1 : (w.alloc (nbox znx)).cell? ⟨g, 1, none⟩ = some (.slice VA vn vc) := (hq.step (bal1 w _)).1.c
  subst VN
  clear hq
  have Z := hide (Nq.new w znx)
  have hb := bal1 w (nbox znx)
  go_enter Tryz.func12, Tryz.ntmps12
  go_wp2_with fail
  exact bodyPost_ret (nret2 rfl _ _ _ #[.int .i64 0, .int .i64 0, .bool false, .slice none 0 0, .slice none 0 0] rfl rfl Z.out) rfl ⟨rfl, hb⟩
theorem rpop_w {w : World} {B g a i n c : Nat} {o : Int} {x : Nx} {l : List Nx} (hq : Ro w B g o (some ⟨a, i, none⟩, n, c) (x :: l)) (D : Option Addr) (hD : D = if c = 1 then some ⟨a, i, none⟩ else some ⟨a, i + 5, none⟩) (hB : B ≤ w.heap.size) (hc : 0 < c) :
    let W := (((w.alloc (nbox znx)).alloc (nbox x)).setCell ⟨g, 1, none⟩ (.slice D (n - 1) (c - 1)));
    Nq W (w.heap.size + 1) x ∧ Nq W w.heap.size znx ∧ Nq (put5n W w.heap.size 0 x) w.heap.size x ∧ Ro (put5n W w.heap.size 0 x) B g o (D, n - 1, c - 1) l ∧ Efq w (put5n W w.heap.size 0 x) B g (some ⟨a, i, none⟩, n, c) (D, n - 1, c - 1) := by
  intro W
  have b1 := bal1 w (nbox znx)
  have sz : (w.alloc (nbox znx)).heap.size = w.heap.size + 1 := by simp
  have b2 := bal1 (w.alloc (nbox znx)) (nbox x)
  have bb := Below.step b1 b1.size b2
  have hg := hq.1.lt
  have X2 : Nq ((w.alloc (nbox znx)).alloc (nbox x)) (w.heap.size + 1) x := by rw [← sz]; exact Nq.new _ x
  have Z2 : Nq ((w.alloc (nbox znx)).alloc (nbox x)) w.heap.size znx := (Nq.new w znx).step b2
  have o1 := only_set1 ((w.alloc (nbox znx)).alloc (nbox x)) g 1 (.slice D (n - 1) (c - 1))
  have XW : Nq W (w.heap.size + 1) x := X2.off o1 (by omega)
  have ZW : Nq W w.heap.size znx := Z2.off o1 (by omega)
  have hqs := hq.step bb
  obtain ⟨a2, i2, e, h5⟩ := hqs.2.2.1.five hc
  injection e with e
  injection e with e1 e2
  subst e1 e2
  have hag : a ≠ g := fun e => hq.ne (by rw [← e]; rfl)
  have halt : a < w.heap.size := (hq.2.2.1.blk rfl).2.1
  have tl := Rl9.tail h5 D hD
  have hDb : ∀ b, (sv (D, n - 1, c - 1)).ownBlock = some b → b = a := by
    intro b e
    rw [hD] at e
    split at e <;> (simp [Value.ownBlock] at e; omega)
  have o2 := only_put5n W w.heap.size 0 x
  have k1 : Rk W g o (D, n - 1, c - 1) := hqs.1.put (D, n - 1, c - 1)
  have k2 : Rk (put5n W w.heap.size 0 x) g o (D, n - 1, c - 1) := (o2.block g (Nat.lt_of_lt_of_le hqs.1.lt o1.size) (fun e => by injection e with e; omega)).trans k1
  refine ⟨XW, ZW, nq_put5 ZW x, ⟨k2, hq.2.1, tl.same (fun b e => ?_), fun y hy => ?_⟩, below_put5n ((bb.mono hB).setCell (p := ⟨g, 1, none⟩) hq.2.1 _) hB 0 x, fun b hb hbg hv => ?_, .inl ?_⟩
  · have := hDb b e
    subst this
    exact (o2.block b (Nat.lt_of_lt_of_le (Nat.lt_of_lt_of_le halt bb.size) o1.size) (fun e => by injection e with e; omega)).trans (o1.block b (Nat.lt_of_lt_of_le halt bb.size) (fun e => hag (Option.some.inj e)))
  · exact ((hqs.2.2.2 y (List.mem_cons_of_mem _ hy)).grownT o1 (fun g' e => by injection e with e; subst e; exact hqs.1.ot)).grownT o2 (fun g' e => by injection e with e; subst e; exact ZW.otq)
  · exact (o2.block b (Nat.lt_of_lt_of_le (Nat.lt_of_lt_of_le hb bb.size) o1.size) (fun e => by injection e with e; omega)).trans ((o1.block b (Nat.lt_of_lt_of_le hb bb.size) (fun e => hbg (Option.some.inj e))).trans (bb.block b hb))
  · rw [hD]
    split <;> rfl
set_option maxHeartbeats 16000000 in
theorem rpop_c {w : World} {B g : Nat} {o : Int} {v : Sl} {x : Nx} {l : List Nx} (hq : Ro w B g o v (x :: l)) :
    Calls Tryz.prog 12 #[.pointer (some ⟨g, 0, none⟩)] w fun e w' => e = .returned (.tuple #[nx x, .bool true]) ∧ ∃ v', Ro w' B g o v' l ∧ Efq w w' B g v v' := by
  obtain ⟨VA, n, c⟩ := v
  have hn : n = l.length + 1 := by have := hq.2.2.1.1; simpa using this
  have hc : n ≤ c ∧ c ≤ 9223372036854775807 := ⟨hq.2.2.1.2.2.1, by have := hq.2.2.1.2.1; unfold maxLen at this; exact this⟩
  obtain ⟨a, i, e, h5⟩ := hq.2.2.1.five (by dsimp only; omega)
  dsimp only at e h5
  subst e
  have hBs : B ≤ w.heap.size := Nat.le_trans hq.2.1 (Nat.le_of_lt hq.1.lt)
  have RW := hide (fun D hD => rpop_w hq D hD hBs (by omega))
  have b1 := bal1 w (nbox znx)
  have SZ := hide (show (w.alloc (nbox znx)).heap.size = w.heap.size + 1 by simp)
  have b2 := bal1 (w.alloc (nbox znx)) (nbox x)
  have q1 := hq.step b1
  have q2 := q1.step b2
  have AG := hide (show a ≠ g ∧ a < w.heap.size ∧ g < w.heap.size from ⟨fun e => hq.ne (by rw [← e]; rfl), h5.lt, hq.1.lt⟩)
  have hh := h5.same (W' := (w.alloc (nbox znx))) (b1.block a h5.lt)
  obtain ⟨y0, y1, y2, y3, y4⟩ := hh.cells (j := 0) (x := x) rfl
  simp only [Nat.zero_mul, Nat.add_zero] at y0 y1 y2 y3 y4
  have c1 : (w.alloc (nbox znx)).cell? ⟨g, 1, none⟩ = some (.slice (some ⟨a, i, none⟩) n c) := q1.1.c
  have c2 : ((w.alloc (nbox znx)).alloc (nbox x)).cell? ⟨g, 1, none⟩ = some (.slice (some ⟨a, i, none⟩) n c) := q2.1.c
  have f2 := q2.1.fz 1
  have l1 : (0 : Int) < (n : Int) := by omega
  have t1 : ((n : Int) == 0) = false := by simp; omega
  have t2 : (n == 0) = false := by simp; omega
  have l3 : (1 : Int) ≤ (n : Int) := by omega
  have l4 : (n : Int) ≤ (c : Int) := by omega
  have NH := hide hn
  clear hq h5 hh b1 b2 q1 q2 hn hBs
  rcases (by omega : c = 1 ∨ c ≠ 1) with hc1 | hc1
  · obtain ⟨X3, Z3, F3', R3', E3'⟩ := RW.out (some ⟨a, i, none⟩) (by rw [if_pos hc1])
    have F3 := hide F3'
    have R3 := hide R3'
    have E3 := hide E3'
    have hn1 : n = 1 := by omega
    obtain ⟨x0, x1, x2, x3, x4⟩ := X3.all
    obtain ⟨z0, z1, z2, z3, z4⟩ := Z3.all
    have f3 := Z3.fz 0
    have f4 := Z3.fz 1
    have f5 := Z3.fz 2
    have f6 := Z3.fz 3
    have f7 := Z3.fz 4
    clear X3 Z3 RW F3' R3' E3'
    subst hc1 hn1
    simp only [Nat.sub_self] at x0 x1 x2 x3 x4 z0 z1 z2 z3 z4 f3 f4 f5 f6 f7
    go_enter Tryz.func12, Tryz.ntmps12
    go_wp2_with fail
    refine bodyPost_ret (nret2 rfl _ _ _ #[.int .i64 x.id, .int .i64 x.dp, .bool x.x.s, sv x.x.u, sv x.x.t] rfl rfl F3.out) rfl ?_
    exact ⟨rfl, _, R3.out, E3.out⟩
  · obtain ⟨X3, Z3, F3', R3', E3'⟩ := RW.out (some ⟨a, i + 5, none⟩) (by rw [if_neg hc1])
    have F3 := hide F3'
    have R3 := hide R3'
    have E3 := hide E3'
    obtain ⟨x0, x1, x2, x3, x4⟩ := X3.all
    obtain ⟨z0, z1, z2, z3, z4⟩ := Z3.all
    have f3 := Z3.fz 0
    have f4 := Z3.fz 1
    have f5 := Z3.fz 2
    have f6 := Z3.fz 3
    have f7 := Z3.fz 4
    clear X3 Z3 RW F3' R3' E3'
    go_enter Tryz.func12, Tryz.ntmps12
    go_wp2_with fail
    refine bodyPost_ret (nret2 rfl _ _ _ #[.int .i64 x.id, .int .i64 x.dp, .bool x.x.s, sv x.x.u, sv x.x.t] rfl rfl F3.out) rfl ?_
    exact ⟨rfl, some ⟨a, i + 5, none⟩, n - 1, c - 1, R3.out, E3.out⟩
theorem rleast0_c {w : World} {B g : Nat} {o : Int} {v : Sl} (hq : Ro w B g o v []) :
    Calls Tryz.prog 18 #[.pointer (some ⟨g, 0, none⟩)] w fun e w' => e = .returned (.tuple #[.agg #[.bool false, .slice none 0 0, .slice none 0 0], .bool false]) ∧ Below w.heap.size w w' := by
  obtain ⟨VA, vn, vc⟩ := v
  have VN : vn = 0 := hq.2.2.1.1
  have c1 : (w.alloc rblk).cell? ⟨g, 1, none⟩ = some (.slice VA vn vc) := (hq.step (bal1 w _)).1.c
  subst VN
  have Z := hide (Rb.new w)
  have AG := hide (show g ≠ w.heap.size by have := hq.1.lt; omega)
  clear hq
  have BF := hide (bal1 w rblk)
  go_enter Tryz.func18, Tryz.ntmps18
  go_wp2_with fail
  refine bodyPost_ret (rret2 rfl _ _ _ #[.bool false, .slice none 0 0, .slice none 0 0] rfl rfl Z.out) rfl ⟨rfl, BF.out⟩
def RlRet (w : World) (l : List Nx) (e : Ending) (w' : World) : Prop :=
  ∃ x : Nx, e = .returned (.tuple #[rx x.x, .bool true]) ∧ Lst l l.length x ∧ Below w.heap.size w w'
set_option maxHeartbeats 16000000 in
theorem rleast_c {w : World} {B g : Nat} {o : Int} {v : Sl} {l : List Nx} (hq : Ro w B g o v l) (h0 : 0 < l.length) :
    Calls Tryz.prog 18 #[.pointer (some ⟨g, 0, none⟩)] w (RlRet w l) := by
  obtain ⟨x, hx⟩ := len_of (d := l) (k := 0) h0
  obtain ⟨VA, n, c⟩ := v
  have hn : n = l.length := hq.2.2.1.1
  have hc : n ≤ c ∧ c ≤ 9223372036854775807 := ⟨hq.2.2.1.2.2.1, by have := hq.2.2.1.2.1; unfold maxLen at this; exact this⟩
  obtain ⟨a, i, e, h5⟩ := hq.2.2.1.five (by dsimp only; omega)
  dsimp only at e h5
  subst e
  have b1 := bal1 w rblk
  have q1 := hq.step b1
  have h6 := h5.same (W' := (w.alloc rblk)) (b1.block a h5.lt)
  obtain ⟨-, -, y2, y3, y4⟩ := h6.cells (j := 0) (x := x) hx
  simp only [Nat.zero_mul, Nat.add_zero] at y2 y3 y4
  have SZ := hide (show (w.alloc rblk).heap.size = w.heap.size + 1 by simp)
  have b2 := bal1 (w.alloc rblk) (rbox x.x.s (sv x.x.u) (sv x.x.t))
  have H5 := hide (show ∀ W, W.heap[a]? = w.heap[a]? → Rl5 W B a i n c l from fun W h => h5.same h)
  have Z2 := hide ((Rb.new w).step b2)
  have X2 := hide (show Bq ((w.alloc rblk).alloc (rbox x.x.s (sv x.x.u) (sv x.x.t))) (w.heap.size + 1) x.x.s (sv x.x.u) (sv x.x.t) by rw [← SZ.out]; exact Bq.new _ _ _ _)
  have Q2 := hide (q1.step b2)
  have B2 := hide (Below.step b1 b1.size b2)
  have AG := hide (show a < w.heap.size ∧ g < w.heap.size from ⟨h5.lt, hq.1.lt⟩)
  have LS := hide (show Lst l 0 x from ⟨List.mem_of_getElem? hx, fun j y h => by omega⟩)
  have c1 : (w.alloc rblk).cell? ⟨g, 1, none⟩ = some (.slice (some ⟨a, i, none⟩) n c) := q1.1.c
  have t1 : ((n : Int) == 0) = false := by simp; omega
  have t2 : (n == 0) = false := by simp; omega
  have l0 : (0 : Int) < (n : Int) := by omega
  have LN := hide hn
  have NC := hide hc
  have hn9 : n ≤ 9223372036854775807 := by omega
  clear hx hq h5 h6 q1 b1 b2 hn hc h0
  go_enter Tryz.func18, Tryz.ntmps18
  go_wp2_with fail
  clear y2 y3 y4 c1
  generalize ((w.alloc rblk).alloc (rbox x.x.s (sv x.x.u) (sv x.x.t))) = w2 at *
  go_loopw [5] (fun iv wr => ∃ (k : Nat) (y : Nx), k ≤ n ∧ iv = .int .i64 (k : Int) ∧ Hid (Below w.heap.size w wr) ∧ Hid (Ro wr B g o (some ⟨a, i, none⟩, n, c) l) ∧ Hid (Rb wr w.heap.size) ∧ Hid (Bq wr (w.heap.size + 1) y.x.s (sv y.x.u) (sv y.x.t)) ∧ Hid (Lst l k y)) (fun iv _ => n - (intOf iv).toNat)
  case atStart => exact ⟨0, x, Nat.zero_le _, rfl, B2, Q2, Z2, X2, LS⟩
  case round =>
    clear B2 Q2 Z2 X2 LS
    obtain ⟨k, y, hk, rfl, BL, QO, ZN, YN, LS⟩ := hrel
    by_cases hlt : k < n
    · have l1 : (0 : Int) ≤ (k : Int) := by omega
      have l2 : (k : Int) < (n : Int) := by omega
      obtain ⟨u, hu⟩ := len_of (d := l) (k := k) (by have := LN.out; omega)
      have HU := hide hu
      have q0 : wr.cell? ⟨g, 1, none⟩ = some (.slice (some ⟨a, i, none⟩) n c) := QO.out.1.c
      have D := hide (Below.refl wr.heap.size wr).drew
      have RU := hide ((QO.out.2.2.2 u (List.mem_of_getElem? hu)).ra.step D.out)
      have RY := hide ((QO.out.2.2.2 y LS.out.1).ra.step D.out)
      have QD := hide (QO.out.step D.out)
      have ZD := hide (ZN.out.step D.out)
      have YD := hide (YN.out.step D.out)
      have BD := hide (Below.step BL.out BL.out.size D.out)
      have CX := hide (show ∀ W, Below wr.drew.heap.size wr.drew W → (W.cell? ⟨g, 1, none⟩ = some (.slice (some ⟨a, i, none⟩) n c) ∧ W.cell? ⟨a, i + k * 5 + 2, none⟩ = some (.bool u.x.s) ∧ W.cell? ⟨a, i + k * 5 + 3, none⟩ = some (sv u.x.u) ∧ W.cell? ⟨a, i + k * 5 + 4, none⟩ = some (sv u.x.t)) ∧ (W.cell? ⟨w.heap.size + 1, 0, none⟩ = some (.bool y.x.s) ∧ W.cell? ⟨w.heap.size + 1, 1, none⟩ = some (sv y.x.u) ∧ W.cell? ⟨w.heap.size + 1, 2, none⟩ = some (sv y.x.t)) ∧ Ra W (rx u.x) u.x.r 6 ∧ Ra W (rx y.x) y.x.r 6 from fun W h => ⟨⟨(QD.out.step h).1.c, by
        obtain ⟨a', i', e', h5'⟩ := (QD.out.step h).2.2.1.five (by dsimp only; have := NC.out; omega)
        injection e' with e'
        injection e' with e1 e2
        subst e1 e2
        exact (h5'.cells HU.out).2.2⟩, bqt (YD.out.step h), RU.out.step h, RY.out.step h⟩)
      have B6 := hide (Below.refl wr.drew.heap.size wr.drew)
      clear hu D RU RY QO ZN YN BL
      go_wp2_with fail
      clear q0
      go_region_held3 (fun W => (W.cell? ⟨g, 1, none⟩ = some (.slice (some ⟨a, i, none⟩) n c) ∧ W.cell? ⟨a, i + k * 5 + 2, none⟩ = some (.bool u.x.s) ∧ W.cell? ⟨a, i + k * 5 + 3, none⟩ = some (sv u.x.u) ∧ W.cell? ⟨a, i + k * 5 + 4, none⟩ = some (sv u.x.t)) ∧ (W.cell? ⟨w.heap.size + 1, 0, none⟩ = some (.bool y.x.s) ∧ W.cell? ⟨w.heap.size + 1, 1, none⟩ = some (sv y.x.u) ∧ W.cell? ⟨w.heap.size + 1, 2, none⟩ = some (sv y.x.t)))
        (with_reducible exact ⟨(CX.out _ B6.out).1, (CX.out _ B6.out).2.1⟩)
        (first
          | (go_at_call 27; refine Calls.mono (rof_f (L := 6) (CX.out _ B6.out).2.2.1 (by omega) (by omega)) ?_; rintro e wx ⟨ya, rfl, ha, ra, bx⟩; have HA := hide ha; have RA := hide ra; replace B6 := hide (Below.step1 B6.out bx); clear bx ha ra)
          | (go_at_call 27; refine Calls.mono (rof_f (L := 6) (CX.out _ B6.out).2.2.2 (by omega) (by omega)) ?_; rintro e wx ⟨yb, rfl, hb, rb, bx⟩; have HBq := hide hb; have RBq := hide rb; replace RA := hide (RA.out.step bx); replace B6 := hide (Below.step1 B6.out bx); clear bx hb rb)
          | (go_at_call 33; refine Calls.mono (rqcmp_s (L := 30) RA.out RBq.out (by omega) (by omega)) ?_; rintro e wx ⟨rfl, bx⟩; replace B6 := hide (Below.step1 B6.out bx); clear bx))
      all_goals
        rw [HA.out, HBq.out]
        replace QD := hide (QD.out.step B6.out)
        replace ZD := hide (ZD.out.step B6.out)
        replace YD := hide (YD.out.step B6.out)
        replace BD := hide (Below.step BD.out BD.out.size B6.out)
        obtain ⟨q0, x2, x3, x4⟩ := (CX.out _ B6.out).1
        obtain ⟨y0, y1, y2⟩ := (CX.out _ B6.out).2.1
        rcases cmp_ways u.x.r y.x.r with ⟨hc, ec⟩ | ⟨hc, ec⟩ | ⟨hc, ec⟩
        · rw [ec]
          have LF := hide (LS.out.next HU.out hc)
          obtain ⟨-, -, -, z0, z1, z2⟩ := YD.out.all
          have on := only_put3 wx (w.heap.size + 1) (.bool u.x.s) (sv u.x.u) (sv u.x.t)
          have QF := hide (QD.out.ch (S := fun b => b = w.heap.size + 1) ⟨on.size, fun b hb hn => on.block b hb (fun e => hn (Option.some.inj e))⟩ (by have := AG.out; omega) (fun b e e2 => by have := AG.out; have e : some a = some b := e; injection e with e; omega) (fun z hz => (QD.out.2.2.2 z hz).nsx (fun b e => by subst e; exact ⟨_, _, _, YD.out, by decide⟩)))
          have YF := hide (YD.out.put u.x.s (sv u.x.u) (sv u.x.t))
          have ZF := hide (show Rb _ w.heap.size from (on.block _ ZD.out.lt (by simp)).trans ZD.out)
          have BF := hide (below_put3 BD.out (show w.heap.size ≤ w.heap.size + 1 by omega) (.bool u.x.s) (sv u.x.u) (sv u.x.t))
          clear QD YD ZD BD on
          go_wp2_with fail
          exact ⟨⟨k + 1, u, by omega, by go_num, BF, QF, ZF, YF, LF⟩, by simp [intOf]; omega⟩
        · rw [ec]
          have LF := hide (LS.out.keep HU.out (by rw [hc]; exact Rat.lt_irrefl))
          clear x2 x3 x4 y0 y1 y2
          go_wp2_with fail
          exact ⟨⟨k + 1, y, by omega, by go_num, BD, QD, ZD, YD, LF⟩, by simp [intOf]; omega⟩
        · rw [ec]
          have LF := hide (LS.out.keep HU.out (by grind))
          clear x2 x3 x4 y0 y1 y2
          go_wp2_with fail
          exact ⟨⟨k + 1, y, by omega, by go_num, BD, QD, ZD, YD, LF⟩, by simp [intOf]; omega⟩
    · have hkn : k = n := by omega
      subst hkn
      have q0 : wr.cell? ⟨g, 1, none⟩ = some (.slice (some ⟨a, i, none⟩) k c) := QO.out.1.c
      obtain ⟨y0, y1, y2⟩ := bqt YN.out
      have z0 := ZN.out.c0
      have z1 := ZN.out.c1
      have z2 := ZN.out.c2
      have f0 := ZN.out.fz 0
      have f1 := ZN.out.fz 1
      have f2 := ZN.out.fz 2
      have YF := hide (ZN.out.set (.bool y.x.s) (sv y.x.u) (sv y.x.t))
      have BF := hide (below_put3 BL.out (Nat.le_refl w.heap.size) (.bool y.x.s) (sv y.x.u) (sv y.x.t))
      have LF := hide (show Lst l l.length y by rw [← LN.out]; exact LS.out)
      clear QO ZN YN BL
      go_wp2_with fail
      refine bodyPost_ret (rret2 rfl _ _ _ #[.bool y.x.s, sv y.x.u, sv y.x.t] rfl rfl YF.out) rfl ?_
      exact ⟨y, rfl, LF.out, BF.out⟩
theorem cmp_tri (a b : Rat) : (a < b ∧ cmpR a b = -1) ∨ (¬ a < b ∧ cmpR a b = 0) ∨ (¬ a < b ∧ cmpR a b = 1) := by
  unfold cmpR
  by_cases h : a < b
  · exact .inl ⟨h, if_pos h⟩
  · rw [if_neg h]
    split
    · exact .inr (.inr ⟨h, rfl⟩)
    · exact .inr (.inl ⟨h, rfl⟩)
theorem flat_eiq : ∀ d : List Int, flat eiq d = d.map fun x => Value.int .i64 x
  | [] => rfl
  | x :: d => by rw [flat, flat_eiq d]; rfl
theorem own_lenI {W : World} {B g n c : Nat} {d : List Int} (h : Ow 3 eiq 1 W B (.slice (some ⟨g, 0, none⟩) n c) d) : n = d.length := by
  rcases h.form with ⟨e, _⟩ | ⟨g', cap, cur, e, _⟩
  · cases e
  · injection e
theorem Ow.setI {W : World} {B g n c j : Nat} {d : List Int} (h : Ow 3 eiq 1 W B (.slice (some ⟨g, 0, none⟩) n c) d) (y : Int) :
    Ow 3 eiq 1 (W.setCell ⟨g, j, none⟩ (.int .i64 y)) B (.slice (some ⟨g, 0, none⟩) n c) (d.set j y) := by
  have hn := own_lenI h
  subst hn
  have h1 := World.ownsRow.stored (show W.ownsRow B _ 1 _ d.length _ from h) j (.int .i64 y)
  have h2 := h1.1
  rw [flat_eiq, ← List.map_set] at h2
  unfold Ow
  rw [List.length_set, flat_eiq]
  exact h2
theorem Ow.cellI {W : World} {B g n c j : Nat} {d : List Int} {x : Int} (h : Ow 3 eiq 1 W B (.slice (some ⟨g, 0, none⟩) n c) d) (hj : d[j]? = some x) : W.cell? ⟨g, j, none⟩ = some (.int .i64 x) := by
  obtain ⟨b, off, e, hb, hc⟩ := (h.rl eiq_len).get hj
  injection e with e
  injection e with e1 e2
  subst e1 e2
  have c0 := hc 0 _ rfl
  rwa [Nat.zero_add, Nat.mul_one, Nat.add_zero] at c0
theorem ow_apart {α β : Type} {e1 : α → List Value} {e2 : β → List Value} {k1 k2 : Nat} {T1 T2 : TypeId} {W : World} {B1 B2 : Nat} {u v : Value} {c : List α} {d : List β} (hT : T1 ≠ T2) (hu : Ow T1 e1 k1 W B1 u c) (hv : Ow T2 e2 k2 W B2 v d) : ∀ b, u.ownBlock = some b → v.ownBlock ≠ some b := by
  intro b eu ev
  rcases hu.form with ⟨rfl, _⟩ | ⟨g, cap, cur, rfl, hB, hlt, hh, _⟩
  · cases eu
  · rcases hv.form with ⟨rfl, _⟩ | ⟨g', cap', cur', rfl, hB', hlt', hh', _⟩
    · cases ev
    · have e1 : g = b := by simpa [Value.ownBlock] using eu
      have e2 : g' = b := by simpa [Value.ownBlock] using ev
      rw [e1] at hh
      rw [e2, hh] at hh'
      injection hh' with hh'
      injection hh' with _ e3 _
      exact hT e3
def Pk (w : World) (q : Rat) (l : List Nx) (k : Nat) (lv ov : Value) (d : List Int) (W : World) : Prop :=
  Below w.heap.size w W ∧ Ow 38 en 5 W w.heap.size lv (keep q (l.take k)) ∧ Ow 3 eiq 1 W w.heap.size ov d ∧ Ordd (fun a b : Int => a < b) d ∧ d.Perm (gone q (l.take k))
theorem Pk.step {w W W' : World} {q : Rat} {l : List Nx} {k : Nat} {lv ov : Value} {d : List Int} (h : Pk w q l k lv ov d W) (hb : Below W.heap.size W W') : Pk w q l k lv ov d W' :=
  ⟨Below.step h.1 h.1.size hb, h.2.1.step hb, h.2.2.1.step hb, h.2.2.2⟩
theorem Pk.stay {w W W' : World} {q : Rat} {l : List Nx} {k : Nat} {lv lv' ov : Value} {d : List Int} {x : Nx} (h : Pk w q l k lv ov d W) (hx : l[k]? = some x) (hq : x.x.r < q)
    (ho : Ow 38 en 5 W' w.heap.size lv' (keep q (l.take k) ++ [x])) (hg : W.grownBy W' lv.ownBlock) : Pk w q l (k + 1) lv' ov d W' := by
  obtain ⟨e1, e2⟩ := keep_next hx hq
  refine ⟨h.1.grown hg h.1.size (fun b hb => (h.2.1.lt hb).1), by rw [e1]; exact ho, h.2.2.1.kept hg ?_, h.2.2.2.1, by rw [e2]; exact h.2.2.2.2⟩
  rcases hv : lv.ownBlock with _ | b
  · cases hu : ov.ownBlock <;> simp
  · exact .inr (ow_apart (by decide) h.2.1 h.2.2.1 b hv)
def Pk2 (w : World) (q : Rat) (l : List Nx) (k : Nat) (lv ov : Value) (d : List Int) (x : Int) (j : Nat) (L : List Int) (W : World) : Prop :=
  Below w.heap.size w W ∧ Ow 38 en 5 W w.heap.size lv (keep q (l.take (k + 1))) ∧ Ow 3 eiq 1 W w.heap.size ov L ∧ Ins (fun a b : Int => a < b) d x j L ∧ Ordd (fun a b : Int => a < b) d ∧ (x :: d).Perm (gone q (l.take (k + 1)))
theorem Pk.go {w W W' : World} {q : Rat} {l : List Nx} {k : Nat} {lv ov ov' : Value} {d : List Int} {x : Nx} (h : Pk w q l k lv ov d W) (hx : l[k]? = some x) (hq : ¬ x.x.r < q)
    (ho : Ow 3 eiq 1 W' w.heap.size ov' (d ++ [x.id])) (hg : W.grownBy W' ov.ownBlock) : Pk2 w q l k lv ov' d x.id d.length (d ++ [x.id]) W' := by
  obtain ⟨e1, e2⟩ := gone_next hx hq
  refine ⟨h.1.grown hg h.1.size (fun b hb => (h.2.2.1.lt hb).1), ?_, ho, Ins.start _ _ _, h.2.2.2.1, ?_⟩
  · rw [e1]
    refine h.2.1.kept hg ?_
    rcases hv : ov.ownBlock with _ | b
    · cases hu : lv.ownBlock <;> simp
    · exact .inr (ow_apart (by decide) h.2.2.1 h.2.1 b hv)
  · rw [e2]
    exact (List.Perm.append_right [x.id] h.2.2.2.2 |>.symm.trans (List.perm_append_comm (l₁ := d) (l₂ := [x.id]))).symm
theorem Pk2.step {w W W' : World} {q : Rat} {l : List Nx} {k : Nat} {lv ov : Value} {d : List Int} {x : Int} {j : Nat} {L : List Int} (h : Pk2 w q l k lv ov d x j L W) (hb : Below W.heap.size W W') : Pk2 w q l k lv ov d x j L W' :=
  ⟨Below.step h.1 h.1.size hb, h.2.1.step hb, h.2.2.1.step hb, h.2.2.2⟩
theorem Pk2.done {w W : World} {q : Rat} {l : List Nx} {k : Nat} {lv ov : Value} {d : List Int} {x : Int} {j : Nat} {L : List Int} (h : Pk2 w q l k lv ov d x j L W) (hk : j = 0 ∨ ∃ i a, j = i + 1 ∧ L[i]? = some a ∧ ¬ x < a) : Pk w q l (k + 1) lv ov L W :=
  ⟨h.1, h.2.1, h.2.2.1, h.2.2.2.1.ints h.2.2.2.2.1 hk, h.2.2.2.1.perm.trans h.2.2.2.2.2⟩
theorem Pk2.two {w W : World} {q : Rat} {l : List Nx} {k g n c : Nat} {lv : Value} {d : List Int} {x a : Int} {i j : Nat} {L : List Int} (h : Pk2 w q l k lv (.slice (some ⟨g, 0, none⟩) n c) d x j L W) (hj : j = i + 1) (ha : L[i]? = some a) (hx : x < a) :
    Pk2 w q l k lv (.slice (some ⟨g, 0, none⟩) n c) d x i ((L.set j a).set i x) ((W.setCell ⟨g, j, none⟩ (.int .i64 a)).setCell ⟨g, i, none⟩ (.int .i64 x)) := by
  have hB : w.heap.size ≤ g := (h.2.2.1.lt rfl).1
  have s1 := h.2.2.1.setI (j := j) a
  have s2 := s1.setI (j := i) x
  have o1 := only_set1 W g j (.int .i64 a)
  have o2 := only_set1 (W.setCell ⟨g, j, none⟩ (.int .i64 a)) g i (.int .i64 x)
  have hne : lv.ownBlock = none ∨ lv.ownBlock ≠ some g := by
    cases hu : lv.ownBlock with
    | none => exact .inl rfl
    | some b => exact .inr (fun e => ow_apart (by decide) h.2.1 h.2.2.1 b hu (by have e := Option.some.inj e; subst e; rfl))
  refine ⟨((h.1.setCell (p := ⟨g, j, none⟩) hB _).setCell (p := ⟨g, i, none⟩) hB _), (h.2.1.kept o1 hne).kept o2 hne, s2, ?_, h.2.2.2.2⟩
  have hi := h.2.2.2.1
  rw [hj] at hi ⊢
  exact hi.swap ha hx
def RpRet (w : World) (B g : Nat) (o : Int) (v : Sl) (l : List Nx) (q : Rat) (e : Ending) (w' : World) : Prop :=
  ∃ (out : Value) (v' : Sl) (d : List Int), e = .returned out ∧ Ow 3 eiq 1 w' w.heap.size out d ∧ Ordd (fun a b : Int => a < b) d ∧ d.Perm (gone q l) ∧ Ro w' B g o v' (keep q l) ∧ Efq w w' B g v v'
theorem Pk.end_ {w w1 W : World} {B g : Nat} {o : Int} {v : Sl} {q : Rat} {l : List Nx} {lv : Sl} {ov : Value} {d : List Int} (h : Pk w1 q l l.length (sv lv) ov d W) (hq : Ro w1 B g o v l) (hb : Below w.heap.size w w1) (hg : g < w.heap.size) (hB : B ≤ w.heap.size) :
    RpRet w B g o v l q (.returned ov) (W.setCell ⟨g, 1, none⟩ (sv lv)) := by
  have hs := hb.size
  have QW := hq.step h.1
  have hl : (sv lv).ownBlock ≠ some g := fun e => by have := (h.2.1.lt e).1; omega
  have ho : ov.ownBlock ≠ some g := fun e => by have := (h.2.2.1.lt e).1; omega
  have o1 := only_set1 W g 1 (sv lv)
  have e1 := h.2.1
  have e2 := h.2.2.2.2
  rw [List.take_length] at e1 e2
  refine ⟨ov, lv, d, rfl, (h.2.2.1.kept o1 (.inr ho)).mono hs, h.2.2.2.1, e2, ⟨QW.1.put lv, hq.2.1, Rl9.of_ow ((e1.kept o1 (.inr hl)).mono (Nat.le_trans hB hs)), fun x hx => ?_⟩, (Below.step (hb.mono hB) (Nat.le_trans hB hs) (h.1.mono (Nat.le_refl _))).setCell (p := ⟨g, 1, none⟩) hq.2.1 _, fun b hb2 hbg hv => ?_, .inr (fun b e => Nat.le_trans hs (h.2.1.lt e).1)⟩
  · exact (QW.2.2.2 x ((List.mem_filter.1 hx).1)).grownT o1 (fun g' e => by injection e with e; subst e; exact QW.1.ot)
  · exact (o1.block b (Nat.lt_of_lt_of_le (Nat.lt_of_lt_of_le hb2 hs) h.1.size) (fun e => hbg (Option.some.inj e))).trans ((h.1.block b (Nat.lt_of_lt_of_le hb2 hs)).trans (hb.block b hb2))
set_option maxHeartbeats 16000000 in
theorem rprune_c {w : World} {B g : Nat} {o : Int} {v : Sl} {l : List Nx} {q : Rx} (hq : Ro w B g o v l) (hr : Ra w (rx q) q.r 6) (hL : l.length ≤ 1800000000000) :
    Calls Tryz.prog 16 #[.pointer (some ⟨g, 0, none⟩), rx q] w (RpRet w B g o v l q.r) := by
  obtain ⟨VA, n, c⟩ := v
  have hn : n = l.length := hq.2.2.1.1
  have hc : n ≤ c ∧ c ≤ 9223372036854775807 := ⟨hq.2.2.1.2.2.1, by have := hq.2.2.1.2.1; unfold maxLen at this; exact this⟩
  have b0 := bal1 w (rbox q.s (sv q.u) (sv q.t))
  have SZ := hide (show (w.alloc (rbox q.s (sv q.u) (sv q.t))).heap.size = w.heap.size + 1 by simp)
  have GW := hide hq.1.lt
  have BW := hide (show B ≤ w.heap.size from Nat.le_trans hq.2.1 (Nat.le_of_lt hq.1.lt))
  have B0 := hide b0
  have Q0 := hide (hq.step b0)
  have R0 := hide (hr.step b0)
  have X0 := hide (Bq.new w q.s (sv q.u) (sv q.t))
  have LN := hide hn
  have LC := hide hc
  have L9 := hide hL
  clear hq hr hn b0 hL
  go_enter Tryz.func16, Tryz.ntmps16
  go_wp2_with fail
  generalize (w.alloc (rbox q.s (sv q.u) (sv q.t))) = w1 at *
  have PK0 := hide (show Pk w1 q.r l 0 (.slice (some ⟨w.heap.size + 1, 0, none⟩) 0 0) (.slice (some ⟨w.heap.size + 1 + 1, 0, none⟩) 0 0) [] ((w1.alloc (.cells #[] 38)).alloc (.cells #[] 3)) by
    rw [← SZ.out]
    have b1 := bal1 w1 (.cells #[] 38)
    have b2 := bal1 (w1.alloc (.cells #[] 38)) (.cells #[] 3)
    have s2 : (w1.alloc (.cells #[] 38)).heap.size = w1.heap.size + 1 := by simp
    have a1 := Ow.lit (B := w1.heap.size) en_len w1 38 [] #[] rfl (Nat.le_refl _) (by simp [maxLen])
    have a2 := Ow.lit (B := w1.heap.size) eiq_len (w1.alloc (.cells #[] 38)) 3 [] #[] rfl (by rw [s2]; omega) (by simp [maxLen])
    rw [s2] at a2
    exact ⟨Below.step b1 b1.size b2, a1.step b2, a2, List.Pairwise.nil, List.Perm.refl _⟩)
  obtain ⟨i0, hi, hz0, hz1, hz2⟩ := info_parts info_nd
  obtain ⟨j0, hj, hy0, hy1, hy2⟩ := info_parts info_iq
  have hn9 : n ≤ 9223372036854775807 := by omega
  go_loopw [5, 6, 7] (fun lv ov iv wr => ∃ (k : Nat) (d : List Int), k ≤ n ∧ iv = .int .i64 (k : Int) ∧ Hid (Pk w1 q.r l k lv ov d wr)) (fun _ _ iv _ => n - (intOf iv).toNat)
  case atStart => exact ⟨0, [], Nat.zero_le _, rfl, PK0⟩
  case round =>
    clear PK0
    obtain ⟨k, d, hk, rfl, PK⟩ := hrel
    obtain ⟨VL, ln, lc, rfl⟩ := rv_sl (PK.out.2.1.rl en_len)
    obtain ⟨VO, on, oc, rfl⟩ := rv_sl (PK.out.2.2.1.rl eiq_len)
    have QR := hide (Q0.out.step PK.out.1)
    have q0 : wr.cell? ⟨g, 1, none⟩ = some (.slice VA n c) := QR.out.1.c
    by_cases hlt : k < n
    · have l1 : (0 : Int) ≤ (k : Int) := by omega
      have l2 : (k : Int) < (n : Int) := by omega
      obtain ⟨u, hu⟩ := len_of (d := l) (k := k) (by have := LN.out; omega)
      have HU := hide hu
      obtain ⟨a, i, eA, -⟩ := QR.out.2.2.1.five (by dsimp only; omega)
      dsimp only at eA
      subst eA
      have D := hide (Below.refl wr.heap.size wr).drew
      have RU := hide ((QR.out.2.2.2 u (List.mem_of_getElem? hu)).ra.step D.out)
      have RQ := hide ((R0.out.step PK.out.1).step D.out)
      have XQ := hide ((X0.out.step PK.out.1).step D.out)
      have QD := hide (QR.out.step D.out)
      have PD := hide (PK.out.step D.out)
      have CX := hide (show ∀ W, Below wr.drew.heap.size wr.drew W → (W.cell? ⟨g, 1, none⟩ = some (.slice (some ⟨a, i, none⟩) n c) ∧ W.cell? ⟨a, i + k * 5, none⟩ = some (.int .i64 u.id) ∧ W.cell? ⟨a, i + k * 5 + 1, none⟩ = some (.int .i64 u.dp) ∧ W.cell? ⟨a, i + k * 5 + 2, none⟩ = some (.bool u.x.s) ∧ W.cell? ⟨a, i + k * 5 + 3, none⟩ = some (sv u.x.u) ∧ W.cell? ⟨a, i + k * 5 + 4, none⟩ = some (sv u.x.t)) ∧ (W.cell? ⟨w.heap.size, 0, none⟩ = some (.bool q.s) ∧ W.cell? ⟨w.heap.size, 1, none⟩ = some (sv q.u) ∧ W.cell? ⟨w.heap.size, 2, none⟩ = some (sv q.t)) ∧ Ra W (rx u.x) u.x.r 6 ∧ Ra W (rx q) q.r 6 from fun W h => ⟨⟨(QD.out.step h).1.c, (QD.out.step h).cells HU.out⟩, bqt (XQ.out.step h), RU.out.step h, RQ.out.step h⟩)
      have B6 := hide (Below.refl wr.drew.heap.size wr.drew)
      clear hu D RU RQ XQ QR PK
      go_wp2_with fail
      clear q0
      go_region_held3 (fun W => (W.cell? ⟨g, 1, none⟩ = some (.slice (some ⟨a, i, none⟩) n c) ∧ W.cell? ⟨a, i + k * 5, none⟩ = some (.int .i64 u.id) ∧ W.cell? ⟨a, i + k * 5 + 1, none⟩ = some (.int .i64 u.dp) ∧ W.cell? ⟨a, i + k * 5 + 2, none⟩ = some (.bool u.x.s) ∧ W.cell? ⟨a, i + k * 5 + 3, none⟩ = some (sv u.x.u) ∧ W.cell? ⟨a, i + k * 5 + 4, none⟩ = some (sv u.x.t)) ∧ (W.cell? ⟨w.heap.size, 0, none⟩ = some (.bool q.s) ∧ W.cell? ⟨w.heap.size, 1, none⟩ = some (sv q.u) ∧ W.cell? ⟨w.heap.size, 2, none⟩ = some (sv q.t)))
        (with_reducible exact ⟨(CX.out _ B6.out).1, (CX.out _ B6.out).2.1⟩)
        (first
          | (go_at_call 27; refine Calls.mono (rof_f (L := 6) (CX.out _ B6.out).2.2.1 (by omega) (by omega)) ?_; rintro e wx ⟨ya, rfl, ha, ra, bx⟩; have HA := hide ha; have RA := hide ra; replace B6 := hide (Below.step1 B6.out bx); clear bx ha ra)
          | (go_at_call 27; refine Calls.mono (rof_f (L := 6) (CX.out _ B6.out).2.2.2 (by omega) (by omega)) ?_; rintro e wx ⟨yb, rfl, hb, rb, bx⟩; have HBq := hide hb; have RBq := hide rb; replace RA := hide (RA.out.step bx); replace B6 := hide (Below.step1 B6.out bx); clear bx hb rb)
          | (go_at_call 33; refine Calls.mono (rqcmp_s (L := 30) RA.out RBq.out (by omega) (by omega)) ?_; rintro e wx ⟨rfl, bx⟩; replace B6 := hide (Below.step1 B6.out bx); clear bx))
      all_goals
        rw [HA.out, HBq.out]
        replace PD := hide (PD.out.step B6.out)
        obtain ⟨q0, x0, x1, x2, x3, x4⟩ := (CX.out _ B6.out).1
        have HB9 := hide PD.out.1.size
        rcases cmp_tri u.x.r q.r with ⟨ht, ec⟩ | ⟨ht, ec⟩ | ⟨ht, ec⟩
        · rw [ec]
          have HT := hide ht
          have kl := keep_len q.r (l.take k)
          have hl0 : (l.take k).length ≤ l.length := by simp; omega
          have hl1 := hide (show (keep q.r (l.take k)).length + 1 ≤ 10000000000000 by have := L9.out; omega)
          have hl2 := hide (show ((keep q.r (l.take k)).length + 1) * 72 ≤ 140737488355328 by have := L9.out; omega)
          clear ht ec kl hl0 CX B6 QD RA RBq
          go_wp2_with (at_builtin; (refine wpList_pushT rfl (.tmp 34) (.tmp 42) 29 rfl Tryz.underlying29 hi hz0 hz1 hz2 rfl (by omega) en_len en_one wx w1.heap.size _ (keep q.r (l.take k)) u _ rfl PD.out.2.1 rfl rfl hl1.out hl2.out HB9.out ?_; intro v' w' ho hg; have PF := hide (PD.out.stay (lv' := v') HU.out HT.out ho hg.1); clear ho hg))
          exact ⟨⟨k + 1, d, by omega, by go_num, PF⟩, by simp [intOf]; omega⟩
        · rw [ec]
          have HT := hide ht
          have gl := PD.out.2.2.2.2.length_eq
          have kl := gone_len q.r (l.take k)
          have hl0 : (l.take k).length ≤ l.length := by simp; omega
          have hl1 := hide (show d.length + 1 ≤ 10000000000000 by have := L9.out; omega)
          have hl2 := hide (show (d.length + 1) * 8 ≤ 140737488355328 by have := L9.out; omega)
          clear ht ec gl kl hl0 CX B6 QD RA RBq
          go_wp2_with (at_builtin; (refine wpList_pushT rfl (.tmp 44) (.tmp 53) 49 rfl Tryz.underlying49 hj hy0 hy1 hy2 rfl (by omega) eiq_len eiq_one wx w1.heap.size _ d u.id _ rfl PD.out.2.2.1 rfl rfl hl1.out hl2.out HB9.out ?_; intro v' w' ho hg; have PF := hide (PD.out.go (ov' := v') HU.out HT.out ho hg.1); obtain ⟨VP, pn, pc, rfl⟩ := rv_sl (ho.rl eiq_len); have PN := hide (show pn = d.length + 1 by have := (lr_nQ (ho.rl eiq_len)).1; simpa using this); clear ho hg; have e9 : IntKind.i64.wrap ((pn : Int) - 1) = (d.length : Int) := (by rw [IntWalk.i64_in _ (by have := PN.out; have := hl1.out; omega)]; have := PN.out; omega)))
          obtain ⟨ga, rfl⟩ : ∃ ga, VP = some (⟨ga, 0, none⟩ : Addr) := by
            rcases PF.out.2.2.1.form with ⟨_, h⟩ | ⟨ga, cap, cur, e, _⟩
            · simp at h
            · injection e with e1
              exact ⟨ga, e1⟩
          have LP := hide (show (d ++ [u.id]).length = pn by rw [PN.out]; simp)
          generalize d.length = dl at *
          go_loopw [8] (fun kv wy => ∃ (j : Nat) (L : List Int), kv = .int .i64 (j : Int) ∧ j ≤ dl ∧ Hid (L.length = pn) ∧ Hid (Pk2 w1 q.r l k (.slice VL ln lc) (.slice (some ⟨ga, 0, none⟩) pn pc) d u.id j L wy)) (fun kv _ => (intOf kv).toNat)
          case atStart => exact ⟨dl, d ++ [u.id], rfl, Nat.le_refl _, LP, PF⟩
          case round =>
            clear PF LP
            obtain ⟨j, L, rfl, hjd, LP, PF⟩ := hrel
            rcases Nat.eq_zero_or_pos j with hj0 | hj0
            · subst hj0
              have t1 : decide ((0 : Int) < ((0 : Nat) : Int)) = false := by decide
              have t2 : decide (0 < 0) = false := by decide
              have PE := hide (PF.out.done (.inl rfl))
              clear PF
              go_wp2_with fail
              go_quiet (fail)
              have PE2 := hide (PE.out.step (below_drewN (Below.refl wr.heap.size wr) nq))
              go_wp2_with fail
              exact ⟨⟨k + 1, L, by omega, by go_num, PE2⟩, by simp [intOf]; omega⟩
            · obtain ⟨i2, hi2⟩ : ∃ i2, j = i2 + 1 := ⟨j - 1, by omega⟩
              have HJ := hide hi2
              have hx : L[j]? = some u.id := PF.out.2.2.2.1.get
              have hjL := (List.getElem?_eq_some_iff.1 hx).1
              obtain ⟨z, hz⟩ : ∃ z, L[i2]? = some z := ⟨_, List.getElem?_eq_getElem (by omega)⟩
              have HZ := hide hz
              have c0 := PF.out.2.2.1.cellI hx
              have c1 := PF.out.2.2.1.cellI hz
              have l1' : (0 : Int) < (j : Int) := by omega
              have t1 : decide ((0 : Int) < (j : Int)) = true := decide_eq_true (by omega)
              have t2 : decide (0 < j) = true := decide_eq_true (by omega)
              have i1 : (0 : Int) ≤ (j : Int) := by omega
              have hLP := LP.out
              have k2 : (j : Int) < (pn : Int) := by omega
              have e1 : IntKind.i64.wrap ((j : Int) - 1) = (i2 : Int) := by rw [IntWalk.i64_in _ (by have := hl1.out; omega)]; omega
              have j1 : (0 : Int) ≤ (i2 : Int) := by omega
              have j2 : (i2 : Int) < (pn : Int) := by omega
              clear hx hz hi2 hLP hjL
              by_cases hlt2 : u.id < z
              · have t3 : decide (u.id < z) = true := decide_eq_true hlt2
                have HLT := hide hlt2
                have fj : ∀ p, wr.frozen? ⟨ga, p, none⟩ = false := fun p => PF.out.2.2.1.frozen rfl p
                clear hlt2
                go_wp2_with fail
                go_quiet (fail)
                have b9 := below_drewN (Below.refl wr.heap.size wr) nq
                have PE2 := hide (show Pk2 w1 q.r l k (.slice VL ln lc) (.slice (some ⟨ga, 0, none⟩) pn pc) d u.id i2 ((L.set j z).set i2 u.id) (((wr.drewN nq).setCell ⟨ga, j, none⟩ (.int .i64 z)).setCell ⟨ga, i2, none⟩ (.int .i64 u.id)) from (PF.out.step b9).two HJ.out HZ.out HLT.out)
                have d2 : ((wr.drewN nq).setCell ⟨ga, j, none⟩ (.int .i64 z)).cell? ⟨ga, i2, none⟩ = some (.int .i64 z) := ((PF.out.step b9).2.2.1.setI (j := j) z).cellI (by rw [List.getElem?_set_ne (by have := HJ.out; omega)]; exact HZ.out)
                have d0 : (wr.drewN nq).cell? ⟨ga, j, none⟩ = some (.int .i64 u.id) := c0
                have d1 : (wr.drewN nq).cell? ⟨ga, i2, none⟩ = some (.int .i64 z) := c1
                have f0 : (wr.drewN nq).frozen? ⟨ga, j, none⟩ = false := fj j
                have f1 : (wr.drewN nq).frozen? ⟨ga, i2, none⟩ = false := fj i2
                clear c0 c1 fj b9 PF
                generalize wr.drewN nq = w9 at *
                have LP2 := hide (show ((L.set j z).set i2 u.id).length = pn by rw [List.length_set, List.length_set]; exact LP.out)
                go_wp2_with fail
                exact ⟨⟨i2, (L.set j z).set i2 u.id, rfl, by have := HJ.out; omega, LP2, PE2⟩, by simp [intOf]; have := HJ.out; omega⟩
              · have t3 : decide (u.id < z) = false := decide_eq_false hlt2
                have PE := hide (PF.out.done (.inr ⟨i2, z, HJ.out, HZ.out, hlt2⟩))
                clear PF hlt2
                go_wp2_with fail
                go_quiet (fail)
                have PE2 := hide (PE.out.step (below_drewN (Below.refl wr.heap.size wr) nq))
                go_wp2_with fail
                exact ⟨⟨k + 1, L, by omega, by go_num, PE2⟩, by simp [intOf]; omega⟩
        · rw [ec]
          have HT := hide ht
          have gl := PD.out.2.2.2.2.length_eq
          have kl := gone_len q.r (l.take k)
          have hl0 : (l.take k).length ≤ l.length := by simp; omega
          have hl1 := hide (show d.length + 1 ≤ 10000000000000 by have := L9.out; omega)
          have hl2 := hide (show (d.length + 1) * 8 ≤ 140737488355328 by have := L9.out; omega)
          clear ht ec gl kl hl0 CX B6 QD RA RBq
          go_wp2_with (at_builtin; (refine wpList_pushT rfl (.tmp 44) (.tmp 53) 49 rfl Tryz.underlying49 hj hy0 hy1 hy2 rfl (by omega) eiq_len eiq_one wx w1.heap.size _ d u.id _ rfl PD.out.2.2.1 rfl rfl hl1.out hl2.out HB9.out ?_; intro v' w' ho hg; have PF := hide (PD.out.go (ov' := v') HU.out HT.out ho hg.1); obtain ⟨VP, pn, pc, rfl⟩ := rv_sl (ho.rl eiq_len); have PN := hide (show pn = d.length + 1 by have := (lr_nQ (ho.rl eiq_len)).1; simpa using this); clear ho hg; have e9 : IntKind.i64.wrap ((pn : Int) - 1) = (d.length : Int) := (by rw [IntWalk.i64_in _ (by have := PN.out; have := hl1.out; omega)]; have := PN.out; omega)))
          obtain ⟨ga, rfl⟩ : ∃ ga, VP = some (⟨ga, 0, none⟩ : Addr) := by
            rcases PF.out.2.2.1.form with ⟨_, h⟩ | ⟨ga, cap, cur, e, _⟩
            · simp at h
            · injection e with e1
              exact ⟨ga, e1⟩
          have LP := hide (show (d ++ [u.id]).length = pn by rw [PN.out]; simp)
          generalize d.length = dl at *
          go_loopw [8] (fun kv wy => ∃ (j : Nat) (L : List Int), kv = .int .i64 (j : Int) ∧ j ≤ dl ∧ Hid (L.length = pn) ∧ Hid (Pk2 w1 q.r l k (.slice VL ln lc) (.slice (some ⟨ga, 0, none⟩) pn pc) d u.id j L wy)) (fun kv _ => (intOf kv).toNat)
          case atStart => exact ⟨dl, d ++ [u.id], rfl, Nat.le_refl _, LP, PF⟩
          case round =>
            clear PF LP
            obtain ⟨j, L, rfl, hjd, LP, PF⟩ := hrel
            rcases Nat.eq_zero_or_pos j with hj0 | hj0
            · subst hj0
              have t1 : decide ((0 : Int) < ((0 : Nat) : Int)) = false := by decide
              have t2 : decide (0 < 0) = false := by decide
              have PE := hide (PF.out.done (.inl rfl))
              clear PF
              go_wp2_with fail
              go_quiet (fail)
              have PE2 := hide (PE.out.step (below_drewN (Below.refl wr.heap.size wr) nq))
              go_wp2_with fail
              exact ⟨⟨k + 1, L, by omega, by go_num, PE2⟩, by simp [intOf]; omega⟩
            · obtain ⟨i2, hi2⟩ : ∃ i2, j = i2 + 1 := ⟨j - 1, by omega⟩
              have HJ := hide hi2
              have hx : L[j]? = some u.id := PF.out.2.2.2.1.get
              have hjL := (List.getElem?_eq_some_iff.1 hx).1
              obtain ⟨z, hz⟩ : ∃ z, L[i2]? = some z := ⟨_, List.getElem?_eq_getElem (by omega)⟩
              have HZ := hide hz
              have c0 := PF.out.2.2.1.cellI hx
              have c1 := PF.out.2.2.1.cellI hz
              have l1' : (0 : Int) < (j : Int) := by omega
              have t1 : decide ((0 : Int) < (j : Int)) = true := decide_eq_true (by omega)
              have t2 : decide (0 < j) = true := decide_eq_true (by omega)
              have i1 : (0 : Int) ≤ (j : Int) := by omega
              have hLP := LP.out
              have k2 : (j : Int) < (pn : Int) := by omega
              have e1 : IntKind.i64.wrap ((j : Int) - 1) = (i2 : Int) := by rw [IntWalk.i64_in _ (by have := hl1.out; omega)]; omega
              have j1 : (0 : Int) ≤ (i2 : Int) := by omega
              have j2 : (i2 : Int) < (pn : Int) := by omega
              clear hx hz hi2 hLP hjL
              by_cases hlt2 : u.id < z
              · have t3 : decide (u.id < z) = true := decide_eq_true hlt2
                have HLT := hide hlt2
                have fj : ∀ p, wr.frozen? ⟨ga, p, none⟩ = false := fun p => PF.out.2.2.1.frozen rfl p
                clear hlt2
                go_wp2_with fail
                go_quiet (fail)
                have b9 := below_drewN (Below.refl wr.heap.size wr) nq
                have PE2 := hide (show Pk2 w1 q.r l k (.slice VL ln lc) (.slice (some ⟨ga, 0, none⟩) pn pc) d u.id i2 ((L.set j z).set i2 u.id) (((wr.drewN nq).setCell ⟨ga, j, none⟩ (.int .i64 z)).setCell ⟨ga, i2, none⟩ (.int .i64 u.id)) from (PF.out.step b9).two HJ.out HZ.out HLT.out)
                have d2 : ((wr.drewN nq).setCell ⟨ga, j, none⟩ (.int .i64 z)).cell? ⟨ga, i2, none⟩ = some (.int .i64 z) := ((PF.out.step b9).2.2.1.setI (j := j) z).cellI (by rw [List.getElem?_set_ne (by have := HJ.out; omega)]; exact HZ.out)
                have d0 : (wr.drewN nq).cell? ⟨ga, j, none⟩ = some (.int .i64 u.id) := c0
                have d1 : (wr.drewN nq).cell? ⟨ga, i2, none⟩ = some (.int .i64 z) := c1
                have f0 : (wr.drewN nq).frozen? ⟨ga, j, none⟩ = false := fj j
                have f1 : (wr.drewN nq).frozen? ⟨ga, i2, none⟩ = false := fj i2
                clear c0 c1 fj b9 PF
                generalize wr.drewN nq = w9 at *
                have LP2 := hide (show ((L.set j z).set i2 u.id).length = pn by rw [List.length_set, List.length_set]; exact LP.out)
                go_wp2_with fail
                exact ⟨⟨i2, (L.set j z).set i2 u.id, rfl, by have := HJ.out; omega, LP2, PE2⟩, by simp [intOf]; have := HJ.out; omega⟩
              · have t3 : decide (u.id < z) = false := decide_eq_false hlt2
                have PE := hide (PF.out.done (.inr ⟨i2, z, HJ.out, HZ.out, hlt2⟩))
                clear PF hlt2
                go_wp2_with fail
                go_quiet (fail)
                have PE2 := hide (PE.out.step (below_drewN (Below.refl wr.heap.size wr) nq))
                go_wp2_with fail
                exact ⟨⟨k + 1, L, by omega, by go_num, PE2⟩, by simp [intOf]; omega⟩
    · have hkn : k = n := by omega
      subst hkn
      have f1 := QR.out.1.fz 1
      have FIN := hide (show RpRet w B g o (VA, k, c) l q.r (.returned (.slice VO on oc)) (wr.setCell ⟨g, 1, none⟩ (.slice VL ln lc)) from by
        have h := PK.out
        rw [LN.out] at h
        exact h.end_ (lv := (VL, ln, lc)) Q0.out B0.out GW.out BW.out)
      clear PK QR
      go_wp2_with fail
      go_ret
      exact FIN.out
end Go.Proofs.YtpfeacdhplbblaaGreat
