
/-
 Branchers: small fractions of the law, the document's examples.
-/
import Derived.Test.YtehdkdoaamlkdaaGreatBr5
import Derived.Test.YtehdkdoaamlkdaaGreatRsum1


namespace Go.Proofs.YtehdkdoaamlkdaaGreat
open Go.RowKit Go.Proofs.YtehdkdoaamlkdaaGreat.Num Go.Maps
set_option linter.unusedVariables false
set_option linter.unusedSimpArgs false
set_option maxRecDepth 100000
set_option maxHeartbeats 4000000 in
theorem bsmall_c (w : World) (n d : Int) (n1 : -9223372036854775808 ≤ n) (n2 : n ≤ 9223372036854775807) (d1 : -9223372036854775808 ≤ d) (d2 : d ≤ 9223372036854775807) (hd : d ≠ 0) :
  Calls Tryz.prog 17 #[.int .i64 n, .int .i64 d] w (ScR w ((n : Rat) / (d : Rat)) 12) := by
 have HB := hide (bal w rblk)
 have HZ := hide (Rb.new w)
 go_enter Tryz.func17, Tryz.ntmps17
 go_wp2_with fail
 refine (rqsmall_any (w.alloc rblk) n n1 n2).mono ?_
 rintro e w1 ⟨v, rfl, z1, b1⟩
 have B1 := hide (Below.step HB.out HB.out.size b1)
 have Z1 := hide (HZ.out.step b1)
 have V := hide z1
 clear z1 b1 HB HZ
 go_wp2_with fail
 refine (rqsmall_any w1 d d1 d2).mono ?_
 rintro e w2 ⟨v2, rfl, z2, b2⟩
 have B2 := hide (Below.step B1.out B1.out.size b2)
 have Z2 := hide (Z1.out.step b2)
 have RC := hide (rqdiv_any (L := 6) (V.out.step b2) z2 ((not_congr Rat.intCast_eq_zero_iff).2 hd) (by omega) (by omega))
 clear z2 b2 B1 Z1 V
 go_wp2_with fail
 refine RC.out.mono ?_
 rintro e w3 ⟨r, rfl, c2, b2⟩
 have B3 := hide (Below.step B2.out B2.out.size b2)
 have Z3 := hide (Z2.out.step b2)
 have TC := hide (rfto_any c2 (by omega))
 clear c2 b2 B2 Z2 RC
 go_wp2_with fail
 refine TC.out.mono ?_
 rintro e w4 h4
 obtain ⟨y, rfl, ey, cy, b4⟩ := rret_x h4
 obtain ⟨⟨k0, k1, k2, f0, f1, f2⟩, f3, f4⟩ := sc_put (w := w) ey cy (Z3.out.step b4) (Below.step B3.out B3.out.size b4) (by omega)
 have F3 := hide f3
 have F4 := hide f4
 clear f3 f4 h4 ey cy b4 TC Z3 B3
 go_wp2_with fail
 exact bodyPost_ret (rret rfl _ _ _ #[.bool y.s, sv y.u, sv y.t] rfl rfl F3.out) rfl F4.out
theorem scK0 {w : World} {B g m cl : Nat} {es : Array MapEntry} (hB : Bro w B g m 20 es cl) {L N : Nat} (h1 : 1 ≤ L) (hL : L ≤ 1000000) (hN : 2 * L + 1 ≤ N) : ScK w g lsr L N := by
 intro W i x r hb hx
 refine (score0_c (hB.step hb) hx h1 hL).mono fun e w' h => ?_
 obtain ⟨y, e1, e2, e3, e4⟩ := h
 exact ⟨y, e1, e2, e3.moreB hN, e4⟩
theorem ex_chz {d : List Rx} {a b c e : Rx} (hd : d = [a, b, c, e]) (ha : a.r = ((1 : Int) : Rat) / ((3 : Int) : Rat)) (hb : b.r = ((1 : Int) : Rat) / ((2 : Int) : Rat)) (hc : c.r = ((5 : Int) : Rat) / ((1 : Int) : Rat)) (he : e.r = ((1 : Int) : Rat) / ((2 : Int) : Rat)) :
  ∃ q, chz lsr [true, true, true, true] d 4 = some (1, q) := by
 subst hd
 have fa : lsr (fr a.r) = ((1 : Int) : Rat) / ((3 : Int) : Rat) := by rw [ha]; decide +kernel
 have fb : lsr (fr b.r) = ((1 : Int) : Rat) / ((2 : Int) : Rat) := by rw [hb]; decide +kernel
 have fe : lsr (fr e.r) = ((1 : Int) : Rat) / ((2 : Int) : Rat) := by rw [he]; decide +kernel
 have ba : brk a.r := by unfold brk; rw [ha]; decide +kernel
 have bb : brk b.r := by unfold brk; rw [hb]; decide +kernel
 have bc : ¬ brk c.r := by unfold brk; rw [hc]; decide +kernel
 have be : brk e.r := by unfold brk; rw [he]; decide +kernel
 have e1 := chz_first (S := lsr) (fl := [true, true, true, true]) (d := [a, b, c, e]) (k := 0) rfl rfl ba rfl
 have e2 := chz_more (S := lsr) (fl := [true, true, true, true]) (d := [a, b, c, e]) (k := 1) rfl rfl bb e1 (by rw [fa, fb]; decide +kernel)
 have e3 := chz_skip (S := lsr) (fl := [true, true, true, true]) (d := [a, b, c, e]) (k := 2) (by rintro ⟨-, x, hx, h⟩; cases hx; exact bc h)
 rw [e2] at e3
 exact ⟨_, chz_less (S := lsr) (fl := [true, true, true, true]) (d := [a, b, c, e]) (k := 3) rfl rfl be e3 (by rw [fb, fe]; decide +kernel)⟩
set_option maxHeartbeats 16000000 in
theorem brspeaks_true (w : World) : Calls Tryz.prog 5 #[] w fun e w' => e = .returned (.bool true) ∧ Below w.heap.size w w' := by
 go_enter Tryz.func5, Tryz.ntmps5
 go_wp2_with fail
 refine (brnew0 w).mono ?_
 rintro e w1 ⟨ga, ma, rfl, ha, b1⟩
 have HA := hide ha
 have B := hide b1
 clear ha b1
 go_wp2_with fail
 refine (brnew1 w1).mono ?_
 rintro e w2 ⟨gb, mb, rfl, hb, b2⟩
 replace HA := hide (HA.out.step b2)
 have HB := hide (hb.mono (B' := w.heap.size) B.out.size)
 replace B := hide (Below.step B.out B.out.size b2)
 clear hb b2
 have bb := bal w2 (.cells #[.bool true, .bool true, .bool true, .bool true] 4)
 have FL := hide (show Lr eb1 1 (w2.alloc (.cells #[.bool true, .bool true, .bool true, .bool true] 4)) (.slice (some ⟨w2.heap.size, 0, none⟩) 4 4) [true, true, true, true] from (Ow.lit (B := w2.heap.size) eb1_len w2 4 [true, true, true, true] _ rfl (Nat.le_refl _) (by simp [maxLen])).rl eb1_len)
 replace HA := hide (HA.out.step bb)
 replace HB := hide (HB.out.step bb)
 replace B := hide (Below.step B.out B.out.size bb)
 clear bb
 go_wp2_with fail
 generalize (w2.alloc (.cells #[.bool true, .bool true, .bool true, .bool true] 4)) = w3 at *
 generalize w2.heap.size = gl at *
 refine (bsmall_c w3 1 3 (by omega) (by omega) (by omega) (by omega) (by omega)).mono ?_
 rintro e w4 ⟨xa, rfl, ex, cx, bx⟩
 have Exa := hide ex
 have Cxa := hide cx
 replace FL := hide (FL.out.step bx)
 replace HA := hide (HA.out.step bx)
 replace HB := hide (HB.out.step bx)
 replace B := hide (Below.step B.out B.out.size bx)
 clear ex cx bx
 go_wp2_with fail
 refine (bsmall_c w4 1 2 (by omega) (by omega) (by omega) (by omega) (by omega)).mono ?_
 rintro e w5 ⟨xb, rfl, ex, cx, bx⟩
 have Exb := hide ex
 have Cxb := hide cx
 replace Cxa := hide (Cxa.out.step bx)
 replace FL := hide (FL.out.step bx)
 replace HA := hide (HA.out.step bx)
 replace HB := hide (HB.out.step bx)
 replace B := hide (Below.step B.out B.out.size bx)
 clear ex cx bx
 go_wp2_with fail
 refine (bsmall_c w5 5 1 (by omega) (by omega) (by omega) (by omega) (by omega)).mono ?_
 rintro e w6 ⟨xc, rfl, ex, cx, bx⟩
 have Exc := hide ex
 have Cxc := hide cx
 replace Cxa := hide (Cxa.out.step bx)
 replace Cxb := hide (Cxb.out.step bx)
 replace FL := hide (FL.out.step bx)
 replace HA := hide (HA.out.step bx)
 replace HB := hide (HB.out.step bx)
 replace B := hide (Below.step B.out B.out.size bx)
 clear ex cx bx
 go_wp2_with fail
 refine (bsmall_c w6 1 2 (by omega) (by omega) (by omega) (by omega) (by omega)).mono ?_
 rintro e w7 ⟨xd, rfl, ex, cx, bx⟩
 have Exd := hide ex
 have Cxd := hide cx
 replace Cxa := hide (Cxa.out.step bx)
 replace Cxb := hide (Cxb.out.step bx)
 replace Cxc := hide (Cxc.out.step bx)
 replace FL := hide (FL.out.step bx)
 replace HA := hide (HA.out.step bx)
 replace HB := hide (HB.out.step bx)
 replace B := hide (Below.step B.out B.out.size bx)
 clear ex cx bx
 have b8 := bal w7 (.cells #[.bool xa.s, sv xa.u, sv xa.t, .bool xb.s, sv xb.u, sv xb.t, .bool xc.s, sv xc.u, sv xc.t, .bool xd.s, sv xd.u, sv xd.t] 43)
 have RL := hide (show Fv (w7.alloc (.cells #[.bool xa.s, sv xa.u, sv xa.t, .bool xb.s, sv xb.u, sv xb.t, .bool xc.s, sv xc.u, sv xc.t, .bool xd.s, sv xd.u, sv xd.t] 43)) (.slice (some ⟨w7.heap.size, 0, none⟩) 4 4) [xa, xb, xc, xd] 12 from
  ⟨(Ow.lit (B := w7.heap.size) er_len w7 43 [xa, xb, xc, xd] _ rfl (Nat.le_refl _) (by simp [maxLen])).rl er_len, fun k hk => by
   simp at hk
   rcases hk with rfl | rfl | rfl | rfl
   ·exact (Cxa.out.step b8).ra
   ·exact (Cxb.out.step b8).ra
   ·exact (Cxc.out.step b8).ra
   ·exact (Cxd.out.step b8).ra⟩)
 replace FL := hide (FL.out.step b8)
 replace HA := hide (HA.out.step b8)
 replace HB := hide (HB.out.step b8)
 replace B := hide (Below.step B.out B.out.size b8)
 clear b8 Cxa Cxb Cxc Cxd
 go_wp2_with fail
 generalize (w7.alloc (.cells #[.bool xa.s, sv xa.u, sv xa.t, .bool xb.s, sv xb.u, sv xb.t, .bool xc.s, sv xc.u, sv xc.t, .bool xd.s, sv xd.u, sv xd.t] 43)) = w8 at *
 generalize w7.heap.size = gr at *
 refine (choose_c (N := 27) (L := 12) FL.out RL.out (scK0 (L := 13) HA.out (by omega) (by omega) (by omega)) (by omega) (by omega) (by omega) (by omega)).mono ?_
 rintro e w9 ⟨hc, bx⟩
 obtain ⟨qx, hx⟩ := ex_chz (d := [xa, xb, xc, xd]) rfl Exa.out Exb.out Exc.out Exd.out
 have hx' : chz lsr [true, true, true, true] [xa, xb, xc, xd] (min [true, true, true, true].length [xa, xb, xc, xd].length) = some (1, qx) := hx
 rw [hx'] at hc
 obtain rfl : e = .returned (.tuple #[.int .i64 1, .bool true]) := by
  rcases hc with ⟨h, -⟩ | ⟨i, q, h, h2⟩
  ·cases h
  ·cases h
   exact h2
 replace HB := hide (HB.out.step bx)
 replace B := hide (Below.step B.out B.out.size bx)
 clear hc bx hx hx' FL RL HA Exa Exb Exc Exd
 go_wp2_with fail
 refine (bsmall_c w9 1 3 (by omega) (by omega) (by omega) (by omega) (by omega)).mono ?_
 rintro e w10 ⟨ya, rfl, ex, cx, bx⟩
 have Ea := hide ex
 have Ca := hide cx
 replace HB := hide (HB.out.step bx)
 replace B := hide (Below.step B.out B.out.size bx)
 clear ex cx bx
 go_wp2_with fail
 refine (bsmall_c w10 2 1 (by omega) (by omega) (by omega) (by omega) (by omega)).mono ?_
 rintro e w11 ⟨yb, rfl, ex, cx, bx⟩
 have Eb := hide ex
 have Cb := hide cx
 replace Ca := hide (Ca.out.step bx)
 replace HB := hide (HB.out.step bx)
 replace B := hide (Below.step B.out B.out.size bx)
 clear ex cx bx
 go_wp2_with fail
 refine (learn_c (s := ya) (t := yb) (L := 12) HB.out B.out.size Ca.out.ra Cb.out.ra (by rw [Ea.out]; decide +kernel) (by rw [Eb.out]; decide +kernel) (by omega) (by omega)).mono ?_
 rintro e w12 ⟨rfl, z, ez, cz, hb, bx⟩
 have EZ := hide (show z.r = 6 by rw [ez, Ea.out, Eb.out]; decide +kernel)
 have CZ := hide cz
 have HC := hide hb
 replace B := hide (B.out.trans bx)
 clear ez cz hb bx HB Ca Cb Ea Eb
 go_wp2_with fail
 refine (bsmall_c w12 1 3 (by omega) (by omega) (by omega) (by omega) (by omega)).mono ?_
 rintro e w13 ⟨yc, rfl, ex, cx, bx⟩
 have Ec := hide ex
 have Cc := hide cx
 replace CZ := hide (CZ.out.step bx)
 replace HC := hide (HC.out.step bx)
 replace B := hide (Below.step B.out B.out.size bx)
 clear ex cx bx
 go_wp2_with fail
 refine (score1_c (x0 := ⟨false, (none, 0, 0), (none, 0, 0), 0⟩) (x1 := z) (k0 := 0) (k1 := 1) (L := 12) (M := 26) HC.out (fun W h => look_miss h) (fun W h => look_hit h) (ra_zero _ _) CZ.out.ra Cc.out.ra (by omega) (by omega) (by omega) (by omega) (by omega) (by omega) (by omega) (by omega)).mono ?_
 rintro e w14 ⟨u, rfl, eu, cu, bx⟩
 have EU := hide (show u.r = ((4 : Int) : Rat) / ((3 : Int) : Rat) by rw [eu, EZ.out, Ec.out]; decide +kernel)
 have CU := hide cu
 replace B := hide (Below.step B.out B.out.size bx)
 clear eu cu bx HC CZ Cc EZ Ec
 go_wp2_with fail
 refine (bsmall_c w14 4 3 (by omega) (by omega) (by omega) (by omega) (by omega)).mono ?_
 rintro e w15 ⟨yd, rfl, ex, cx, bx⟩
 have Ed := hide ex
 have Cd := hide cx
 replace CU := hide (CU.out.step bx)
 replace B := hide (Below.step B.out B.out.size bx)
 clear ex cx bx
 go_wp2_with fail
 refine (rsame_c (r := u.r) CU.out (by have := Cd.out; rw [Ed.out, ← EU.out] at this; exact this)).mono ?_
 rintro e w16 ⟨rfl, bx⟩
 replace B := hide (Below.step B.out B.out.size bx)
 clear bx
 go_wp2_with fail
 go_ret
 exact ⟨rfl, B.out⟩
end Go.Proofs.YtehdkdoaamlkdaaGreat
