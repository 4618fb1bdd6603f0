
/-
 A cut's terms compared: likens.
-/
import Derived.Test.YtofmhfbbedalbaaGreatPl2

namespace Go.Proofs.YtofmhfbbedalbaaGreat
open Go.RowKit Go.Proofs.YtofmhfbbedalbaaGreat.Num
set_option linter.unusedVariables false
set_option linter.unusedSimpArgs false
set_option maxRecDepth 100000
set_option maxHeartbeats 2000000 in
theorem likens1_c {x y : Tx} {L M : Nat} {w : World} (hx : Ra w (rx x.x) x.x.r L) (hy : Ra w (rx y.x) y.x.r M) (h1 : 1 ≤ L) (hL : L ≤ 1000000000000) (hM : M ≤ 1000000000000) :
  Calls Tryz.prog 83 #[.agg (et x).toArray, .agg (et y).toArray] w fun e w' => BRet (x.c = y.c ∧ x.x.r = y.x.r) e ∧ Below w.heap.size w w' := by
 have b2 : Below w.heap.size w ((w.alloc (.cells #[.int .i64 x.c, .bool x.x.s, sv x.x.u, sv x.x.t] 59)).alloc (.cells #[.int .i64 y.c, .bool y.x.s, sv y.x.u, sv y.x.t] 59)) := ((Below.refl _ _).alloc (Nat.le_refl _) _).alloc (by simp) _
 have HX := hide (hx.step b2)
 have HY := hide (hy.step b2)
 have B := hide b2
 clear hx hy b2
 show Calls Tryz.prog 83 #[.agg #[.int .i64 x.c, .bool x.x.s, sv x.x.u, sv x.x.t], .agg #[.int .i64 y.c, .bool y.x.s, sv y.x.u, sv y.x.t]] w _
 go_enter Tryz.func83, Tryz.ntmps83
 by_cases hc : x.c = y.c
 ·have HC := hide hc
  have t1 : (x.c == y.c) = true := by rw [hc]; exact beq_self_eq_true _
  clear hc
  go_wp2_with fail
  refine (cmp_r (L := L + M) (HX.out.more' (by omega)) (HY.out.more' (by omega)) (by omega) (by omega)).mono ?_
  rintro e w1 ⟨rfl, bx⟩
  replace B := hide (Below.step B.out B.out.size bx)
  obtain ⟨z, hz⟩ : ∃ z, z = cmpR x.x.r y.x.r := ⟨_, rfl⟩
  rw [← hz]
  have HZ := hide hz
  clear hz bx
  go_wp2_with fail
  go_ret
  exact ⟨⟨_, rfl, by rw [beq_iff_eq, HZ.out, cmp_eq0]; exact ⟨fun h => ⟨HC.out, h⟩, fun h => h.2⟩⟩, B.out⟩
 ·have t1 : (x.c == y.c) = false := beq_eq_false_iff_ne.2 hc
  have HC := hide hc
  clear hc
  go_wp2_with fail
  go_ret
  exact ⟨⟨false, rfl, by constructor <;> intro h; cases h; exact absurd h.1 HC.out⟩, B.out⟩
theorem enter_likens : ∀ args w, (callFunc 83 args).run Tryz.prog w = .ok (.enter 83 args) w := Go.Proofs.enters_of Tryz.func83 (by kernel_rfl) rfl
set_option maxHeartbeats 8000000 in
theorem equalfuncL_c {w : World} {u v : Value} {d f : List Tx} {L M : Nat} (hu : Tv w u d L) (hv : Tv w v f M) (h1 : 1 ≤ L) (hL : L ≤ 1000000000000) (hM : M ≤ 1000000000000) :
  Calls Tryz.prog 82 #[u, v, .func (.func 83) #[] #[]] w fun e w' => BRet (tms d = tms f) e ∧ Below w.heap.size w w' := by
 obtain ⟨A, c, e1, hc1, hc2, hc3⟩ := id hu.1
 obtain ⟨D, m, e2, hd1, hd2, hd3⟩ := id hv.1
 obtain ⟨n, hlen⟩ : ∃ n, n = d.length := ⟨_, rfl⟩
 obtain ⟨n', hlen'⟩ : ∃ n', n' = f.length := ⟨_, rfl⟩
 rw [← hlen] at e1 hc1
 rw [← hlen'] at e2 hd1
 subst e1 e2
 have HU := hide hu
 have HV := hide hv
 have HN := hide hlen
 have HL := hide hlen'
 have eg := enter_likens
 unfold maxLen at hc2
 clear hu hv hc3 hd3 hlen hlen'
 go_enter Tryz.func82, Tryz.ntmps82
 by_cases hnn : n = n'
 case neg =>
  have t0 : ((n : Int) != (n' : Int)) = true := by simp; omega
  go_wp2_with fail
  go_ret
  exact ⟨⟨false, rfl, by
   constructor
   ·intro h; cases h
   ·intro h; have h1 := congrArg List.length h; rw [tms_len, tms_len, ← HN.out, ← HL.out] at h1; exact absurd h1 hnn⟩, Below.refl _ _⟩
 subst hnn
 have t0 : ((n : Int) != (n : Int)) = false := by simp
 go_wp2_with fail
 go_loopw [17] (fun iv wr => ∃ k : Nat, k ≤ n ∧ iv = .int .i64 (k : Int) ∧ Hid (Below w.heap.size w wr) ∧ Hid (Sk d f k)) (fun iv _ => n - (intOf iv).toNat)
 case atStart => exact ⟨0, Nat.zero_le _, rfl, hide (Below.refl _ _), hide (Sk.zero d f)⟩
 case round =>
  obtain ⟨k, hk, rfl, B, S⟩ := hrel
  by_cases hlt : k < n
  ·obtain ⟨x, hx⟩ := len_of (d := d) (k := k) (by rw [← HN.out]; exact hlt)
   obtain ⟨y, hy⟩ := len_of (d := f) (k := k) (by rw [← HL.out]; exact hlt)
   have b8 : Below wr.heap.size wr ((wr.alloc (.cells #[.int .i64 x.c, .bool x.x.s, sv x.x.u, sv x.x.t] 59)).alloc (.cells #[.int .i64 y.c, .bool y.x.s, sv y.x.u, sv y.x.t] 59)) := ((Below.refl _ _).alloc (Nat.le_refl _) _).alloc (by simp) _
   have RX := hide (((HU.out.2 x (List.mem_of_getElem? hx)).step B.out).step b8)
   have RY := hide (((HV.out.2 y (List.mem_of_getElem? hy)).step B.out).step b8)
   obtain ⟨b, off, rfl, hb, hc⟩ := (HU.out.1.step B.out).get hx
   obtain ⟨b', off', rfl, hb', hc'⟩ := (HV.out.1.step B.out).get hy
   have c0 := hc 0 _ rfl
   have c1 := hc 1 _ rfl
   have c2 := hc 2 _ rfl
   have c3 := hc 3 _ rfl
   have d0 := cell_keep (hc' 0 _ rfl) ((Below.refl wr.heap.size wr).alloc (Nat.le_refl _) (.cells #[.int .i64 x.c, .bool x.x.s, sv x.x.u, sv x.x.t] 59))
   have d1 := cell_keep (hc' 1 _ rfl) ((Below.refl wr.heap.size wr).alloc (Nat.le_refl _) (.cells #[.int .i64 x.c, .bool x.x.s, sv x.x.u, sv x.x.t] 59))
   have d2 := cell_keep (hc' 2 _ rfl) ((Below.refl wr.heap.size wr).alloc (Nat.le_refl _) (.cells #[.int .i64 x.c, .bool x.x.s, sv x.x.u, sv x.x.t] 59))
   have d3 := cell_keep (hc' 3 _ rfl) ((Below.refl wr.heap.size wr).alloc (Nat.le_refl _) (.cells #[.int .i64 x.c, .bool x.x.s, sv x.x.u, sv x.x.t] 59))
   rw [Nat.add_zero] at c0 d0
   have l0 : (0 : Int) ≤ (k : Int) := by omega
   have l1 : (k : Int) < (n : Int) := by omega
   have HX := hide hx
   have HY := hide hy
   have B8 := hide (Below.step B.out B.out.size b8)
   have hcall := hide (likens1_c (x := x) (y := y) RX.out RY.out h1 hL hM)
   clear hc hc' hb hb' hx hy b8
   go_wp2_with (go_at_fn 83; refine hcall.out.mono ?_; rintro e w3 ⟨⟨b9, rfl, hb9⟩, bx⟩; have H9 := hide hb9; have B9 := hide (Below.step B8.out B8.out.size bx); clear hb9 bx; cases b9)
   ·go_ret
    exact ⟨⟨false, rfl, by
     constructor
     ·intro h; cases h
     ·intro h; exact H9.out.2 (tms_at h HX.out HY.out)⟩, B9.out⟩
   ·exact ⟨⟨k + 1, by omega, by go_num, B9, hide (S.out.next HX.out HY.out (H9.out.1 (by simp)))⟩, by simp [intOf]; omega⟩
  ·obtain rfl : k = n := by omega
   go_wp2_with fail
   go_ret
   exact ⟨⟨true, rfl, by
    constructor
    ·intro _; exact S.out.done (by rw [← HN.out]; exact Nat.le_refl _) (by rw [← HN.out, ← HL.out])
    ·intro _; rfl⟩, B.out⟩
set_option maxHeartbeats 4000000 in
theorem likens_c {w : World} {x : Cx} {u : Value} {f : List Tx} {L M : Nat} (hx : Kv w x.k L) (hu : Tv w u f M) (h1 : 1 ≤ L) (hL : L ≤ 1000000) (hM : M ≤ 1000000) :
  Calls Tryz.prog 46 #[cx x, u] w fun e w' => BRet (tms x.k.d = tms f) e ∧ Below w.heap.size w w' := by
 obtain ⟨A6, n6, c6, rfl⟩ := rv_sl hu.1
 have b2 := alloc_below w (cbox x)
 have P := hide (Cq.new w x)
 have HX := hide (hx.1.step b2)
 have HU := hide (hu.step b2)
 have B := hide b2
 clear hx hu b2
 obtain ⟨p0, p1, p2, p3, p4, p5⟩ := P.out.all
 go_enter Tryz.func46, Tryz.ntmps46
 go_wp2_with fail
 refine (equalfuncL_c HX.out HU.out h1 (by omega) (by omega)).mono ?_
 rintro e w1 ⟨⟨b, rfl, hb⟩, bx⟩
 have H := hide hb
 replace B := hide (Below.step B.out B.out.size bx)
 clear hb bx p0 p1 p2 p3 p4 p5
 go_wp2_with fail
 go_ret
 exact ⟨⟨b, rfl, H.out⟩, B.out⟩
end Go.Proofs.YtofmhfbbedalbaaGreat
