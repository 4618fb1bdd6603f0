
/-
 The law's small constraints: whole, line.
-/
import Derived.Test.YtofmhfbbedalbaaGreatPl2
import Derived.Test.YtofmhfbbedalbaaGreatBundleH
import Derived.Test.YtofmhfbbedalbaaGreatBundleO


namespace Go.Proofs.YtofmhfbbedalbaaGreat
open Go.RowKit Go.Proofs.YtofmhfbbedalbaaGreat.Num
set_option linter.unusedVariables false
set_option linter.unusedSimpArgs false
set_option maxRecDepth 100000
set_option maxHeartbeats 4000000 in
theorem whole19_g (w : World) (z : Int) (h1 : -9223372036854775808 ≤ z) (h2 : z ≤ 9223372036854775807) :
  Calls Tryz.prog 24 #[.int .i64 z] w (RgRet w (z : Rat) 6) := by
 have HB := hide ((Below.refl w.heap.size w).alloc (Nat.le_refl _) rblk)
 have HZ := hide (Rb.new w)
 go_enter Tryz.func24, Tryz.ntmps24
 go_wp2_with fail
 refine (rqsmall_any (w.alloc rblk) z h1 h2).mono ?_
 rintro e w1 ⟨v, rfl, c1, b1⟩
 have B1 := hide (Below.step HB.out HB.out.size b1)
 have Z1 := hide (HZ.out.step b1)
 have TC := hide (rfto_g c1 (by omega))
 clear b1 c1 HB HZ
 go_wp2_with fail
 refine TC.out.mono ?_
 rintro e w4 ⟨x, rfl, hx, r2, b2⟩
 obtain ⟨⟨k0, k1, k2, f0, f1, f2⟩, fin⟩ := rg_put (w0 := w) (r2.mono (B' := w.heap.size) B1.out.size) (Z1.out.step b2) (by omega) (Below.step B1.out B1.out.size b2)
 have F := hide fin
 have X := hide hx
 clear fin TC r2 b2 Z1 B1 hx
 go_wp2_with fail
 exact bodyPost_ret (rret rfl _ _ _ #[.bool x.s, sv x.u, sv x.t] rfl rfl F.out.1) rfl (by rw [← X.out]; exact F.out.2)
abbrev k2 (g : Nat) (x y z : Rx) : Kx := ⟨1, (some ⟨g, 0, none⟩, 2, 2), [⟨0, x⟩, ⟨1, y⟩], z⟩
def TwoG (W : World) (B : Nat) (g : Nat) (x y z : Rx) (a b c : Int) : Prop := Tg W B (.slice (some ⟨g, 0, none⟩) 2 2) [⟨0, x⟩, ⟨1, y⟩] 6 ∧ Rg W B z 6 ∧ x.r = (a : Rat) ∧ y.r = (b : Rat) ∧ z.r = (c : Rat)
theorem TwoG.step {W W' : World} {B g : Nat} {x y z : Rx} {a b c : Int} (h : TwoG W B g x y z a b c) (hb : Below W.heap.size W W') : TwoG W' B g x y z a b c := ⟨h.1.step hb, h.2.1.step hb, h.2.2⟩
theorem TwoG.kv {W : World} {B g : Nat} {x y z : Rx} {a b c : Int} (h : TwoG W B g x y z a b c) : Kv W (k2 g x y z) 6 := ⟨h.1.tv, h.2.1.ra⟩
theorem TwoG.tms {W : World} {B g : Nat} {x y z : Rx} {a b c : Int} (h : TwoG W B g x y z a b c) : Go.Proofs.YtofmhfbbedalbaaGreat.tms [(⟨0, x⟩ : Tx), ⟨1, y⟩] = [((0 : Int), (a : Rat)), ((1 : Int), (b : Rat))] := by
 show [((0 : Int), x.r), ((1 : Int), y.r)] = _
 rw [h.2.2.1, h.2.2.2.1]
set_option maxHeartbeats 4000000 in
theorem line_c (w : World) (a b c : Int) (a1 : -9223372036854775808 ≤ a) (a2 : a ≤ 9223372036854775807) (b1 : -9223372036854775808 ≤ b) (b2 : b ≤ 9223372036854775807) (c1 : -9223372036854775808 ≤ c) (c2 : c ≤ 9223372036854775807) :
  Calls Tryz.prog 20 #[.int .i64 a, .int .i64 b, .int .i64 c] w fun e w' => ∃ g x y z, e = .returned (kx (k2 g x y z)) ∧ TwoG w' w.heap.size g x y z a b c ∧ Below w.heap.size w w' := by
 have HB := hide (alloc_below w kblk)
 have HZ := hide (Kz.new w)
 go_enter Tryz.func20, Tryz.ntmps20
 go_wp2_with fail
 refine (whole19_g _ a a1 a2).mono ?_
 rintro e w1 ⟨x, rfl, hx, rx1, bx⟩
 have X := hide hx
 have RX := hide (rx1.mono (B' := w.heap.size) HB.out.size)
 have Z := hide (HZ.out.step bx)
 have B := hide (Below.step HB.out HB.out.size bx)
 clear hx rx1 bx HB HZ
 go_wp2_with fail
 refine (whole19_g _ b b1 b2).mono ?_
 rintro e w2 ⟨y, rfl, hy, ry, bx⟩
 have al := alloc_below w2 (.cells #[.int .i64 0, .bool x.s, sv x.u, sv x.t, .int .i64 1, .bool y.s, sv y.u, sv y.t] 59)
 have T := hide (show Tg (w2.alloc (.cells #[.int .i64 0, .bool x.s, sv x.u, sv x.t, .int .i64 1, .bool y.s, sv y.u, sv y.t] 59)) w.heap.size (.slice (some ⟨w2.heap.size, 0, none⟩) 2 2) [⟨0, x⟩, ⟨1, y⟩] 6 from
  ⟨Ow.lit et_len w2 59 [⟨0, x⟩, ⟨1, y⟩] _ rfl (Nat.le_trans B.out.size bx.size) (by simp [maxLen]), fun t ht => by
   simp at ht
   rcases ht with rfl | rfl
   ·exact (RX.out.step bx).step al
   ·exact (ry.mono (B' := w.heap.size) B.out.size).step al⟩)
 have Y := hide hy
 replace Z := hide ((Z.out.step bx).step al)
 replace B := hide (Below.step (Below.step B.out B.out.size bx) (Below.step B.out B.out.size bx).size al)
 clear hy ry bx al RX
 go_wp2_with fail
 generalize (w2.alloc (.cells #[.int .i64 0, .bool x.s, sv x.u, sv x.t, .int .i64 1, .bool y.s, sv y.u, sv y.t] 59)) = w3 at *
 generalize w2.heap.size = g at *
 refine (whole19_g _ c c1 c2).mono ?_
 rintro e w4 ⟨z, rfl, hz, rz, bx⟩
 have ZZ := hide hz
 have RZ := hide (rz.mono (B' := w.heap.size) B.out.size)
 replace T := hide (T.out.step bx)
 replace Z := hide (Z.out.step bx)
 replace B := hide (Below.step B.out B.out.size bx)
 clear hz rz bx
 obtain ⟨z0, z1, z2, z3, z4⟩ := Z.out.all
 have y0 := Z.out.fz 0
 have y1 := Z.out.fz 1
 have y2 := Z.out.fz 2
 have y3 := Z.out.fz 3
 have y4 := Z.out.fz 4
 have P := hide (put5_heap Z.out rfl (.int .i64 1) (.slice (some ⟨g, 0, none⟩) 2 2) (.bool z.s) (sv z.u) (sv z.t))
 have T2 := hide (T.out.grownK (only_put5 w4 w.heap.size (.int .i64 1) (.slice (some ⟨g, 0, none⟩) 2 2) (.bool z.s) (sv z.u) (sv z.t)) Z.out.kb)
 have R2 := hide (RZ.out.grownK (only_put5 w4 w.heap.size (.int .i64 1) (.slice (some ⟨g, 0, none⟩) 2 2) (.bool z.s) (sv z.u) (sv z.t)) Z.out.kb)
 have B2 := hide (below_put5 B.out (Nat.le_refl w.heap.size) (.int .i64 1) (.slice (some ⟨g, 0, none⟩) 2 2) (.bool z.s) (sv z.u) (sv z.t))
 clear T RZ Z B
 go_wp2_with fail
 exact bodyPost_ret (kret rfl _ _ _ #[.int .i64 1, .slice (some ⟨g, 0, none⟩) 2 2, .bool z.s, sv z.u, sv z.t] rfl rfl P.out) rfl ⟨g, x, y, z, rfl, ⟨T2.out, R2.out, X.out, Y.out, ZZ.out⟩, B2.out⟩
end Go.Proofs.YtofmhfbbedalbaaGreat
