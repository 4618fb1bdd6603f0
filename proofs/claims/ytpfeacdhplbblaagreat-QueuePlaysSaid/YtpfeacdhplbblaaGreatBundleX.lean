/-
  Shared texts, one behind the other: Qp1, Qp2, Qp3.
-/
import Derived.Test.YtpfeacdhplbblaaGreatQs1
import Derived.Deep.DeepCutAuto
import Derived.BigRegion
import Derived.Deep.RegionHeld3
import Derived.BigQuiet

namespace Go.Proofs.YtpfeacdhplbblaaGreat
open Go.RowKit Go.Proofs.YtpfeacdhplbblaaGreat.Num
set_option linter.unusedVariables false
set_option linter.unusedSimpArgs false
set_option maxRecDepth 100000
set_option maxHeartbeats 4000000 in
theorem qcheap_c {w : World} {x y : Nx} {M : Nat} (hx : Ra w (rx x.x) x.x.r M) (hy : Ra w (rx y.x) y.x.r M) (h1 : 1 ≤ M) (hM : M ≤ 1000000) :
    Calls Tryz.prog 35 #[nx x, nx y] w fun e w' => e = .returned (.int .i64 (cmpR x.x.r y.x.r)) ∧ Below w.heap.size w w' := by
  have b2 : Below w.heap.size w ((w.alloc (nbox x)).alloc (nbox y)) := ((Below.refl _ _).alloc (Nat.le_refl _) _).alloc (by simp) _
  have HX := hide (hx.step b2)
  have HY := hide (hy.step b2)
  have B := hide b2
  have X := hide (show Nq ((w.alloc (nbox x)).alloc (nbox y)) w.heap.size x from heap_alloc2_old w _ _)
  have Y := hide (show Nq ((w.alloc (nbox x)).alloc (nbox y)) (w.heap.size + 1) y from heap_alloc2_new w _ _)
  clear hx hy b2
  go_enter Tryz.func35, Tryz.ntmps35
  obtain ⟨x0, x1, x2, x3, x4⟩ := X.out.all
  obtain ⟨y0, y1, y2, y3, y4⟩ := Y.out.all
  go_wp2_with fail
  generalize ((w.alloc (nbox x)).alloc (nbox y)) = W0 at *
  refine (cmp_r (r1 := x.x.r) (r2 := y.x.r) (L := M) HX.out HY.out h1 (by omega)).mono ?_
  rintro e w2 ⟨rfl, bx⟩
  have BF := hide (Below.step B.out B.out.size bx)
  clear bx x0 x1 x2 x3 x4 y0 y1 y2 y3 y4
  go_wp2_with fail
  go_ret
  exact ⟨rfl, BF.out⟩
theorem nret1 {fn : Func} {p : Tmp} (h : fn.results = #[.cell p 38]) (tmps : Array Value) (w : World) (g : Nat) (cs : Array Value) (hs : cs.size = 5)
    (hp : tmps.getD p undef = .pointer (some ⟨g, 0, none⟩)) (hg : w.heap[g]? = some (.cells cs 38 (0, 0))) : (results fn tmps).run Tryz.prog w = .ok (.agg cs) w :=
  results_cell_row h tmps w g 38 cs (0, 0) _ hp hg Tryz.underlying38 rfl (by rw [hs]; kernel_rfl)
def Lst (l : List Nx) (k : Nat) (x : Nx) : Prop := x ∈ l ∧ ∀ j y, j < k → l[j]? = some y → ¬ y.x.r < x.x.r
theorem Lst.keep {l : List Nx} {k : Nat} {x y : Nx} (h : Lst l k x) (hy : l[k]? = some y) (hn : ¬ y.x.r < x.x.r) : Lst l (k + 1) x :=
  ⟨h.1, fun j z hj hz => by
    rcases Nat.lt_succ_iff_lt_or_eq.1 hj with hj | rfl
    · exact h.2 j z hj hz
    · rw [hy] at hz; cases hz; exact hn⟩
theorem Lst.next {l : List Nx} {k : Nat} {x y : Nx} (h : Lst l k x) (hy : l[k]? = some y) (hn : y.x.r < x.x.r) : Lst l (k + 1) y :=
  ⟨List.mem_of_getElem? hy, fun j z hj hz => by
    rcases Nat.lt_succ_iff_lt_or_eq.1 hj with hj | rfl
    · have := h.2 j z hj hz; grind
    · rw [hy] at hz; cases hz; grind⟩
set_option maxHeartbeats 16000000 in
theorem qmin_c {w : World} {B g M : Nat} {o : Int} {v : Sl} {l : List Nx} (hq : Qo w B g o v l M) (h0 : 0 < l.length) (h1 : 1 ≤ M) (hM : M ≤ 1000000) :
    Calls Tryz.prog 34 #[sv v, .func (.func 35) #[] #[]] w fun e w' => ∃ x, e = .returned (nx x) ∧ Lst l l.length x ∧ Below w.heap.size w w' := by
  obtain ⟨x, hx⟩ := len_of (d := l) (k := 0) h0
  obtain ⟨a, c, rfl, hB, hlt, hl1, hl2, hag⟩ := hq.form hx
  obtain ⟨n, hn⟩ : ∃ n, n = l.length := ⟨_, rfl⟩
  rw [← hn] at hq h0 ⊢
  have HX := hide hx
  have LN := hide hn
  have AG := hide (show a < w.heap.size ∧ g < w.heap.size from ⟨hlt, hq.1.lt⟩)
  have Z0 := hide (Nq.new w znx)
  have Q0 := hide (hq.step (bal1 w (nbox znx)))
  have B0 := hide (bal1 w (nbox znx))
  have S0 := hide (show a < (w.alloc (nbox znx)).heap.size by rw [show (w.alloc (nbox znx)).heap.size = w.heap.size + 1 by simp]; omega)
  have hn9 : n ≤ 9223372036854775807 := by unfold maxLen at hl2; omega
  clear hx hq hl1 hl2 hag hn
  obtain ⟨x0, x1, x2, x3, x4⟩ := Ow.cellsN Q0.out.2.2.1 HX.out
  simp only [Nat.zero_mul, Nat.zero_add] at x0 x1 x2 x3 x4
  have l0 : (0 : Int) < (n : Int) := by omega
  have t1 : decide ((n : Int) < 1) = false := decide_eq_false (by omega)
  change Calls Tryz.prog 34 #[.slice (some ⟨a, 0, none⟩) n c, .func (.func 35) #[] #[]] w _
  go_enter Tryz.func34, Tryz.ntmps34
  go_wp2_with fail
  have SZ := hide (show (w.alloc (nbox znx)).heap.size = w.heap.size + 1 by simp)
  generalize hw0 : (w.alloc (nbox znx)) = w0 at *
  clear hw0
  have X1 := hide (show Nq (w0.alloc (nbox x)) (w.heap.size + 1) x by rw [← SZ.out]; exact Nq.new w0 x)
  have b1 := bal1 w0 (nbox x)
  have Q1 := hide (Q0.out.step b1)
  have Z1 := hide (Z0.out.step b1)
  have B1 := hide (Below.step B0.out B0.out.size b1)
  clear b1 x0 x1 x2 x3 x4 Q0 Z0
  go_loopw [6] (fun iv wr => ∃ (k : Nat) (y : Nx), 1 ≤ k ∧ k ≤ n ∧ iv = .int .i64 (k : Int) ∧ Hid (Below w.heap.size w wr) ∧ Hid (Qo wr B g o (some ⟨a, 0, none⟩, n, c) l M) ∧ Hid (Nq wr w.heap.size znx) ∧ Hid (Nq wr (w.heap.size + 1) y) ∧ Hid (Lst l k y)) (fun iv _ => n - (intOf iv).toNat)
  case atStart => exact ⟨1, x, Nat.le_refl _, by omega, rfl, B1, Q1, Z1, X1, hide ⟨List.mem_of_getElem? HX.out, fun j y hj hy => by
    have : j = 0 := by omega
    subst this
    rw [HX.out] at hy
    cases hy
    exact Rat.lt_irrefl⟩⟩
  case round =>
    clear B1 Q1 Z1 X1
    obtain ⟨k, y, hk1, hk, rfl, BL, QO, ZN, YN, LS⟩ := hrel
    by_cases hlt : k < n
    · have l1 : (0 : Int) ≤ (k : Int) := by omega
      have l2 : (k : Int) < (n : Int) := by omega
      obtain ⟨u, hu⟩ := len_of (d := l) (k := k) (by have := LN.out; omega)
      have HU := hide hu
      have D := hide (Below.refl wr.heap.size wr).drew
      have RU := hide ((QO.out.2.2.2 u (List.mem_of_getElem? hu)).ra.step D.out)
      have RY := hide ((QO.out.2.2.2 y LS.out.1).ra.step D.out)
      have QD := hide (QO.out.step D.out)
      have ZD := hide (ZN.out.step D.out)
      have YD := hide (YN.out.step D.out)
      have BD := hide (Below.step BL.out BL.out.size D.out)
      have CX := hide (show ∀ W, Below wr.drew.heap.size wr.drew W → (W.cell? ⟨a, k * 5, none⟩ = some (.int .i64 u.id) ∧ W.cell? ⟨a, k * 5 + 1, none⟩ = some (.int .i64 u.dp) ∧ W.cell? ⟨a, k * 5 + 2, none⟩ = some (.bool u.x.s) ∧ W.cell? ⟨a, k * 5 + 3, none⟩ = some (sv u.x.u) ∧ W.cell? ⟨a, k * 5 + 4, none⟩ = some (sv u.x.t)) ∧ (W.cell? ⟨w.heap.size + 1, 0, none⟩ = some (.int .i64 y.id) ∧ W.cell? ⟨w.heap.size + 1, 1, none⟩ = some (.int .i64 y.dp) ∧ W.cell? ⟨w.heap.size + 1, 2, none⟩ = some (.bool y.x.s) ∧ W.cell? ⟨w.heap.size + 1, 3, none⟩ = some (sv y.x.u) ∧ W.cell? ⟨w.heap.size + 1, 4, none⟩ = some (sv y.x.t)) ∧ Ra W (rx u.x) u.x.r M ∧ Ra W (rx y.x) y.x.r M from fun W h => ⟨Ow.cellsN (QD.out.step h).2.2.1 HU.out, (YD.out.step h).all, RU.out.step h, RY.out.step h⟩)
      have B6 := hide (Below.refl wr.drew.heap.size wr.drew)
      clear hu D RU RY QO ZN YN BL
      go_wp2_with fail
      go_region_held3 (fun W => (W.cell? ⟨a, k * 5, none⟩ = some (.int .i64 u.id) ∧ W.cell? ⟨a, k * 5 + 1, none⟩ = some (.int .i64 u.dp) ∧ W.cell? ⟨a, k * 5 + 2, none⟩ = some (.bool u.x.s) ∧ W.cell? ⟨a, k * 5 + 3, none⟩ = some (sv u.x.u) ∧ W.cell? ⟨a, k * 5 + 4, none⟩ = some (sv u.x.t)) ∧ (W.cell? ⟨w.heap.size + 1, 0, none⟩ = some (.int .i64 y.id) ∧ W.cell? ⟨w.heap.size + 1, 1, none⟩ = some (.int .i64 y.dp) ∧ W.cell? ⟨w.heap.size + 1, 2, none⟩ = some (.bool y.x.s) ∧ W.cell? ⟨w.heap.size + 1, 3, none⟩ = some (sv y.x.u) ∧ W.cell? ⟨w.heap.size + 1, 4, none⟩ = some (sv y.x.t)))
        (with_reducible exact ⟨(CX.out _ B6.out).1, (CX.out _ B6.out).2.1⟩)
        (first | (go_at_call 35; refine Calls.mono (qcheap_c (x := u) (y := y) (M := M) (CX.out _ B6.out).2.2.1 (CX.out _ B6.out).2.2.2 h1 hM) ?_; rintro e wx ⟨rfl, bx⟩; replace B6 := hide (Below.step1 B6.out bx); clear bx))
      all_goals
        replace QD := hide (QD.out.step B6.out)
        replace ZD := hide (ZD.out.step B6.out)
        replace YD := hide (YD.out.step B6.out)
        replace BD := hide (Below.step BD.out BD.out.size B6.out)
        obtain ⟨x0, x1, x2, x3, x4⟩ := (CX.out _ B6.out).1
        obtain ⟨y0, y1, y2, y3, y4⟩ := (CX.out _ B6.out).2.1
        rcases cmp_ways u.x.r y.x.r with ⟨hc, ec⟩ | ⟨hc, ec⟩ | ⟨hc, ec⟩
        · rw [ec]
          have LF := hide (LS.out.next HU.out hc)
          have z0 := YD.out.fz 0
          have z1 := YD.out.fz 1
          have z2 := YD.out.fz 2
          have z3 := YD.out.fz 3
          have z4 := YD.out.fz 4
          have QF := hide (QD.out.off (only_put5n _ (w.heap.size + 1) 0 u) YD.out.otq (by have := AG.out; omega) (fun e => by have := AG.out; have e : some a = some (w.heap.size + 1) := e; injection e with e; omega))
          have YF := hide (nq_put5 YD.out u)
          have ZF := hide (ZD.out.off (only_put5n _ (w.heap.size + 1) 0 u) (by omega))
          have BF := hide (below_put5n BD.out (show w.heap.size ≤ w.heap.size + 1 by omega) 0 u)
          clear QD YD ZD BD
          go_wp2_with fail
          exact ⟨⟨k + 1, u, by omega, by omega, by go_num, BF, QF, ZF, YF, LF⟩, by simp [intOf]; omega⟩
        · rw [ec]
          have LF := hide (LS.out.keep HU.out (by rw [hc]; exact Rat.lt_irrefl))
          clear x0 x1 x2 x3 x4 y0 y1 y2 y3 y4
          go_wp2_with fail
          exact ⟨⟨k + 1, y, by omega, by omega, by go_num, BD, QD, ZD, YD, LF⟩, by simp [intOf]; omega⟩
        · rw [ec]
          have LF := hide (LS.out.keep HU.out (by grind))
          clear x0 x1 x2 x3 x4 y0 y1 y2 y3 y4
          go_wp2_with fail
          exact ⟨⟨k + 1, y, by omega, by omega, by go_num, BD, QD, ZD, YD, LF⟩, by simp [intOf]; omega⟩
    · have hkn : k = n := by omega
      subst hkn
      obtain ⟨y0, y1, y2, y3, y4⟩ := YN.out.all
      obtain ⟨u0, u1, u2, u3, u4⟩ := ZN.out.all
      have z0 := ZN.out.fz 0
      have z1 := ZN.out.fz 1
      have z2 := ZN.out.fz 2
      have z3 := ZN.out.fz 3
      have z4 := ZN.out.fz 4
      have YF := hide (nq_put5 ZN.out y)
      have BF := hide (below_put5n BL.out (Nat.le_refl w.heap.size) 0 y)
      clear QO ZN YN BL
      go_wp2_with fail
      refine bodyPost_ret (nret1 rfl _ _ _ #[.int .i64 y.id, .int .i64 y.dp, .bool y.x.s, sv y.x.u, sv y.x.t] rfl rfl YF.out) rfl ?_
      exact ⟨y, rfl, LS.out, BF.out⟩
def LeRet (w : World) (l : List Nx) (M : Nat) (e : Ending) (w' : World) : Prop :=
  ∃ (y : Rx) (x : Nx), e = .returned (.tuple #[rx y, .bool true]) ∧ Lst l l.length x ∧ y.r = x.x.r ∧ Rg w' w.heap.size y M ∧ Below w.heap.size w w'
set_option maxHeartbeats 16000000 in
theorem qleast0_c {w : World} {B g M : Nat} {o : Int} {v : Sl} (hq : Qo w B g o v [] M) :
    Calls Tryz.prog 17 #[.pointer (some ⟨g, 0, none⟩)] w fun e w' => e = .returned (.tuple #[.agg #[.bool false, .slice none 0 0, .slice none 0 0], .bool false]) ∧ Below w.heap.size w w' := by
  obtain ⟨VA, vn, vc⟩ := v
  have VN := (lr_nQ hq.rd).1
  have c1 : (w.alloc rblk).cell? ⟨g, 1, none⟩ = some (.slice VA vn vc) := (hq.step (bal1 w _)).1.c
  simp at VN
  subst VN
  have Z := hide (Rb.new w)
  have AG := hide (show g ≠ w.heap.size by have := hq.1.lt; omega)
  clear hq
  have BF := hide (bal1 w rblk)
  go_enter Tryz.func17, Tryz.ntmps17
  go_wp2_with fail
  refine bodyPost_ret (rret2 rfl _ _ _ #[.bool false, .slice none 0 0, .slice none 0 0] rfl rfl Z.out) rfl ⟨rfl, BF.out⟩
theorem Lst.first {o : Int} {l : List Nx} {x : Nx} (h : Hn o l l.length) (hx : l[0]? = some x) (ho : o ≠ 1) : Lst l l.length x :=
  ⟨List.mem_of_getElem? hx, fun j y _ hy hlt => h.firstM hx y (List.mem_of_getElem? hy) (.inr ⟨ho, .inl hlt⟩)⟩
set_option maxHeartbeats 16000000 in
theorem qleast_c {w : World} {B g M : Nat} {o : Int} {v : Sl} {l : List Nx} (hq : Qo w B g o v l M) (hn : Hn o l l.length) (h0 : 0 < l.length) (h1 : 1 ≤ M) (hM : M ≤ 1000000) :
    Calls Tryz.prog 17 #[.pointer (some ⟨g, 0, none⟩)] w (LeRet w l M) := by
  obtain ⟨x, hx⟩ := len_of (d := l) (k := 0) h0
  obtain ⟨a, c, rfl, hB, hlt, hl1, hl2, hag⟩ := hq.form hx
  obtain ⟨n, hn'⟩ : ∃ n, n = l.length := ⟨_, rfl⟩
  rw [← hn'] at hq
  have HX := hide hx
  have LN := hide hn'
  have H0 := hide h0
  have HN := hide hn
  have AG := hide (show a < w.heap.size ∧ g < w.heap.size ∧ B ≤ w.heap.size from ⟨hlt, hq.1.lt, by omega⟩)
  have b1 := bal1 w rblk
  have SZ := hide (show (w.alloc rblk).heap.size = w.heap.size + 1 by simp)
  have Z1 := hide (Rb.new w)
  have Q1 := hide (hq.step b1)
  have B1 := hide b1
  have n0 : 0 < n := by omega
  clear hx hq hl1 hl2 hag hn' hn b1 h0 hlt hB
  have c1 : (w.alloc rblk).cell? ⟨g, 1, none⟩ = some (.slice (some ⟨a, 0, none⟩) n c) := Q1.out.1.c
  obtain ⟨x0, x1, x2, x3, x4⟩ := Ow.cellsN Q1.out.2.2.1 HX.out
  simp only [Nat.zero_mul, Nat.zero_add] at x0 x1 x2 x3 x4
  have t1 : ((n : Int) == 0) = false := by simp; omega
  have t2 : (n == 0) = false := by simp; omega
  have l1 : (0 : Int) < (n : Int) := by omega
  have g1 : g ≠ w.heap.size := by have := AG.out; omega
  have q0 : (w.alloc rblk).cell? ⟨g, 0, none⟩ = some (.int .i64 o) := Q1.out.1.c0
  have key : ∃ W : World, ∃ y : Nx, True := ⟨w, x, trivial⟩
  clear key
  go_enter Tryz.func17, Tryz.ntmps17
  have b2 := bal1 (w.alloc rblk) (nbox x)
  have N2 := hide (show Nq ((w.alloc rblk).alloc (nbox x)) (w.heap.size + 1) x by rw [← SZ.out]; exact Nq.new _ x)
  have Q2 := hide (Q1.out.step b2)
  have Z2 := hide (Z1.out.step b2)
  have B2 := hide (Below.step B1.out B1.out.size b2)
  have o2 : ((w.alloc rblk).alloc (nbox x)).cell? ⟨g, 0, none⟩ = some (.int .i64 o) := Q2.out.1.c0
  have o3 : ((w.alloc rblk).alloc (nbox x)).cell? ⟨g, 1, none⟩ = some (.slice (some ⟨a, 0, none⟩) n c) := Q2.out.1.c
  clear b2 Q1 Z1 B1
  by_cases ho : o = 0
  · have t3 : (o != 0) = false := by simp [ho]
    have LS := hide (Lst.first HN.out HX.out (by omega))
    have RX := hide ((Q2.out.2.2.2 x (List.mem_of_getElem? HX.out)).ra)
    obtain ⟨y0, y1, y2, y3, y4⟩ := N2.out.all
    clear Q2
    go_wp2_with fail
    generalize ((w.alloc rblk).alloc (nbox x)) = w2 at *
    clear x0 x1 x2 x3 x4 c1 q0 o2 o3
    refine (form_g (L := M) RX.out h1 (by omega)).mono ?_
    rintro e w3 ⟨u, rfl, eu, gu, bx⟩
    have Z3 := Z2.out.step bx
    have k0 := Z3.c0
    have k1 := Z3.c1
    have k2 := Z3.c2
    have f0 := Z3.fz 0
    have f1 := Z3.fz 1
    have f2 := Z3.fz 2
    have ZF := hide (Z3.set (.bool u.s) (sv u.u) (sv u.t))
    have UF := hide ((gu.mono (B' := w.heap.size) B2.out.size).grownT (only_put3 w3 w.heap.size (.bool u.s) (sv u.u) (sv u.t)) (fun g' e => by injection e with e; subst e; exact ⟨_, _, _, Z3, by decide⟩))
    have BF := hide (below_put3 (Below.step B2.out B2.out.size bx) (Nat.le_refl w.heap.size) (.bool u.s) (sv u.u) (sv u.t))
    have EU := hide eu
    clear Z3 gu bx eu y0 y1 y2 y3 y4
    go_wp2_with fail
    refine bodyPost_ret (rret2 rfl _ _ _ #[.bool u.s, sv u.u, sv u.t] rfl rfl ZF.out) rfl ?_
    exact ⟨u, x, rfl, LS.out, EU.out, UF.out, BF.out⟩
  · have t3 : (o != 0) = true := by simp [ho]
    go_wp2_with fail
    clear x0 x1 x2 x3 x4 c1 q0 o2 o3
    generalize ((w.alloc rblk).alloc (nbox x)) = w2 at *
    refine (qmin_c (v := (some ⟨a, 0, none⟩, n, c)) Q2.out H0.out h1 hM).mono ?_
    rintro e w3 ⟨y, rfl, ls, bx⟩
    have LS := hide ls
    have N3 := N2.out.step bx
    have Q3 := Q2.out.step bx
    have Z3 := Z2.out.step bx
    have B3 := Below.step B2.out B2.out.size bx
    obtain ⟨y0, y1, y2, y3, y4⟩ := N3.all
    have f0 := N3.fz 0
    have f1 := N3.fz 1
    have f2 := N3.fz 2
    have f3 := N3.fz 3
    have f4 := N3.fz 4
    have on := only_put5n w3 (w.heap.size + 1) 0 y
    have N4 := hide (show Nq (((((w3.setCell ⟨w.heap.size + 1, 0, none⟩ (.int .i64 y.id)).setCell ⟨w.heap.size + 1, 1, none⟩ (.int .i64 y.dp)).setCell ⟨w.heap.size + 1, 2, none⟩ (.bool y.x.s)).setCell ⟨w.heap.size + 1, 3, none⟩ (sv y.x.u)).setCell ⟨w.heap.size + 1, 4, none⟩ (sv y.x.t)) (w.heap.size + 1) y from nq_put5 N3 y)
    have R4 := hide (show Ra (((((w3.setCell ⟨w.heap.size + 1, 0, none⟩ (.int .i64 y.id)).setCell ⟨w.heap.size + 1, 1, none⟩ (.int .i64 y.dp)).setCell ⟨w.heap.size + 1, 2, none⟩ (.bool y.x.s)).setCell ⟨w.heap.size + 1, 3, none⟩ (sv y.x.u)).setCell ⟨w.heap.size + 1, 4, none⟩ (sv y.x.t)) (rx y.x) y.x.r M from ((Q3.2.2.2 y ls.1).grownT on (fun g' e => by injection e with e; subst e; exact N3.otq)).ra)
    have Z4 := hide (show Rb (((((w3.setCell ⟨w.heap.size + 1, 0, none⟩ (.int .i64 y.id)).setCell ⟨w.heap.size + 1, 1, none⟩ (.int .i64 y.dp)).setCell ⟨w.heap.size + 1, 2, none⟩ (.bool y.x.s)).setCell ⟨w.heap.size + 1, 3, none⟩ (sv y.x.u)).setCell ⟨w.heap.size + 1, 4, none⟩ (sv y.x.t)) w.heap.size from (on.block w.heap.size Z3.lt (by simp)).trans Z3)
    have B4 := hide (show Below w.heap.size w (((((w3.setCell ⟨w.heap.size + 1, 0, none⟩ (.int .i64 y.id)).setCell ⟨w.heap.size + 1, 1, none⟩ (.int .i64 y.dp)).setCell ⟨w.heap.size + 1, 2, none⟩ (.bool y.x.s)).setCell ⟨w.heap.size + 1, 3, none⟩ (sv y.x.u)).setCell ⟨w.heap.size + 1, 4, none⟩ (sv y.x.t)) from below_put5n B3 (by omega) 0 y)
    clear on N3 Q3 Z3 B3 ls bx N2 Q2 Z2 B2
    have r4 := N4.out.all
    obtain ⟨r0, r1, r2, r3, r4⟩ := r4
    go_wp2_with fail
    clear y0 y1 y2 y3 y4 f0 f1 f2 f3 f4 r0 r1 r2 r3 r4
    generalize (((((w3.setCell ⟨w.heap.size + 1, 0, none⟩ (.int .i64 y.id)).setCell ⟨w.heap.size + 1, 1, none⟩ (.int .i64 y.dp)).setCell ⟨w.heap.size + 1, 2, none⟩ (.bool y.x.s)).setCell ⟨w.heap.size + 1, 3, none⟩ (sv y.x.u)).setCell ⟨w.heap.size + 1, 4, none⟩ (sv y.x.t)) = w4 at *
    refine (form_g (L := M) R4.out h1 (by omega)).mono ?_
    rintro e w5 ⟨u, rfl, eu, gu, bx⟩
    have Z3 := Z4.out.step bx
    have k0 := Z3.c0
    have k1 := Z3.c1
    have k2 := Z3.c2
    have f0 := Z3.fz 0
    have f1 := Z3.fz 1
    have f2 := Z3.fz 2
    have ZF := hide (Z3.set (.bool u.s) (sv u.u) (sv u.t))
    have UF := hide ((gu.mono (B' := w.heap.size) B4.out.size).grownT (only_put3 w5 w.heap.size (.bool u.s) (sv u.u) (sv u.t)) (fun g' e => by injection e with e; subst e; exact ⟨_, _, _, Z3, by decide⟩))
    have BF := hide (below_put3 (Below.step B4.out B4.out.size bx) (Nat.le_refl w.heap.size) (.bool u.s) (sv u.u) (sv u.t))
    have EU := hide eu
    clear Z3 gu bx eu
    go_wp2_with fail
    refine bodyPost_ret (rret2 rfl _ _ _ #[.bool u.s, sv u.u, sv u.t] rfl rfl ZF.out) rfl ?_
    exact ⟨u, y, rfl, LS.out, EU.out, UF.out, BF.out⟩
set_option maxHeartbeats 4000000 in
theorem rnsame_c {w : World} {x y : Nx} {M : Nat} (hx : Rc w (rx x.x) x.x.r M) (hy : Rc w (rx y.x) x.x.r M) (hi : x.id = y.id) (hd : x.dp = y.dp) :
    Calls Tryz.prog 13 #[nx x, nx y] w fun e w' => e = .returned (.bool true) ∧ Below w.heap.size w w' := by
  have b2 : Below w.heap.size w ((w.alloc (nbox x)).alloc (nbox y)) := ((Below.refl _ _).alloc (Nat.le_refl _) _).alloc (by simp) _
  have HX := hide (hx.step b2)
  have HY := hide (hy.step b2)
  have B := hide b2
  have X := hide (show Nq ((w.alloc (nbox x)).alloc (nbox y)) w.heap.size x from heap_alloc2_old w _ _)
  have Y := hide (show Nq ((w.alloc (nbox x)).alloc (nbox y)) (w.heap.size + 1) y from heap_alloc2_new w _ _)
  have t1 : (x.id == y.id) = true := by simp [hi]
  have t2 : (x.dp == y.dp) = true := by simp [hd]
  clear hx hy b2 hi hd
  go_enter Tryz.func13, Tryz.ntmps13
  obtain ⟨x0, x1, x2, x3, x4⟩ := X.out.all
  obtain ⟨y0, y1, y2, y3, y4⟩ := Y.out.all
  go_wp2_with fail
  generalize ((w.alloc (nbox x)).alloc (nbox y)) = W0 at *
  refine (rsame_c HX.out HY.out).mono ?_
  rintro e w2 ⟨rfl, bx⟩
  have BF := hide (Below.step B.out B.out.size bx)
  clear bx x0 x1 x2 x3 x4 y0 y1 y2 y3 y4
  go_wp2_with fail
  go_ret
  exact ⟨rfl, BF.out⟩
def e1q (x : Int) : List Value := [.int .i64 x]
set_option maxHeartbeats 4000000 in
theorem rsameints_c {w : World} {u v : Value} {d : List Int} (hu : Lr e1q 1 w u d) (hv : Lr e1q 1 w v d) :
    Calls Tryz.prog 14 #[u, v] w fun e w' => e = .returned (.bool true) ∧ Below w.heap.size w w' := by
  obtain ⟨A, n, c, rfl⟩ := rv_sl hu
  obtain ⟨D, m, f, rfl⟩ := rv_sl hv
  have NU := (lr_nQ hu).1
  have NV := (lr_nQ hv).1
  obtain rfl : n = m := by omega
  have hn9 : n ≤ 9223372036854775807 := by have := (lr_nQ hu).2; unfold maxLen at this; omega
  have HU := hide hu
  have HV := hide hv
  have LN := hide NU
  clear hu hv NU NV
  have t0 : ((n : Int) != (n : Int)) = false := by simp
  go_enter Tryz.func14, Tryz.ntmps14
  go_wp2_with fail
  go_loopw [5] (fun iv wr => ∃ k : Nat, k ≤ n ∧ iv = .int .i64 (k : Int) ∧ Hid (Below w.heap.size w wr)) (fun iv _ => n - (intOf iv).toNat)
  case atStart => exact ⟨0, Nat.zero_le _, rfl, hide (Below.refl _ _)⟩
  case round =>
    obtain ⟨k, hk, rfl, BL⟩ := hrel
    by_cases hlt : k < n
    · have l1 : (0 : Int) ≤ (k : Int) := by omega
      have l2 : (k : Int) < (n : Int) := by omega
      obtain ⟨x, hx⟩ := len_of (d := d) (k := k) (by have := LN.out; omega)
      obtain ⟨b1, o1, e1, hb1, hc1⟩ := (HU.out.step BL.out).get hx
      obtain ⟨b2, o2, e2, hb2, hc2⟩ := (HV.out.step BL.out).get hx
      subst e1 e2
      have x0 := hc1 0 _ rfl
      have y0 := hc2 0 _ rfl
      rw [Nat.add_zero, Nat.mul_one] at x0 y0
      have t1 : (x != x) = false := by simp
      clear hb1 hc1 hb2 hc2 hx
      go_wp2_with fail
      go_quiet (fail)
      all_goals
        go_wp2_with fail
        exact ⟨⟨k + 1, by omega, by go_num, hide (below_drewN BL.out _)⟩, by simp [intOf]; omega⟩
    · go_wp2_with fail
      go_ret
      exact ⟨rfl, BL.out⟩
end Go.Proofs.YtpfeacdhplbblaaGreat
