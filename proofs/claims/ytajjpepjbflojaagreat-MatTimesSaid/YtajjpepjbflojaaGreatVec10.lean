/-
  The examples of chapter 5: they hold.
-/
import Derived.Test.YtajjpepjbflojaaGreatVec9

namespace Go.Proofs.YtajjpepjbflojaaGreat
open Go.RowKit Go.Proofs.YtajjpepjbflojaaGreat.Num
set_option linter.unusedVariables false
set_option linter.unusedSimpArgs false
set_option maxRecDepth 100000

theorem alloc_below (W : World) (o : Obj) : Below W.heap.size W (W.alloc o) := (Below.refl _ _).alloc (Nat.le_refl _) _
theorem lit1 {W : World} {x : Rx} {L : Nat} (c : Int) (h : Rc W (rx x) x.r L) : Tc (W.alloc (.cells #[.int .i64 c, .bool x.s, sv x.u, sv x.t] 63)) (.slice (some ⟨W.heap.size, 0, none⟩) 1 1) [⟨c, x⟩] L :=
  ⟨(Ow.lit (B := W.heap.size) et_len W 63 [⟨c, x⟩] _ rfl (Nat.le_refl _) (by simp [maxLen])).rl et_len, fun y hy => by simp at hy; subst hy; exact h.step (alloc_below _ _)⟩
theorem ex_make (c : Int) : gsum [(1, ((2 : Int) : Rat)), (0, ((1 : Int) : Rat)), (1, ((-2 : Int) : Rat))] c = gsum [(0, 1)] c := by
  have e2 : ((2 : Int) : Rat) = 2 := rfl
  have e1 : ((1 : Int) : Rat) = 1 := rfl
  have e3 : ((-2 : Int) : Rat) = -2 := rfl
  simp only [gsum, e1, e2, e3]
  grind
theorem ex_fm : Fm [((0 : Int), (1 : Rat))] := ⟨by simp, by simp⟩
theorem ex_get : gt [((0 : Int), (1 : Rat))] 0 = 1 := by simp [gt, gsum, Rat.add_zero]
theorem ex_dot {a b : Rx} (ha : a.r = ((2 : Int) : Rat)) (hb : b.r = ((7 : Int) : Rat)) : dt [(0, ((3 : Int) : Rat)), (5, ((1 : Int) : Rat))] (xf [a, b]) = ((6 : Int) : Rat) := by
  have e0 : xf [a, b] 0 = a.r := xf_in (d := [a, b]) (k := 0) rfl
  have e5 : xf [a, b] 5 = 0 := xf_out [a, b] 5 (.inr (by simp))
  simp only [dt, e0, e5, ha]
  grind
theorem bq3 {W : World} {g : Nat} {s : Bool} {u t : Value} (h : Bq W g s u t) : W.cell? ⟨g, 0, none⟩ = some (.bool s) ∧ W.cell? ⟨g, 1, none⟩ = some u ∧ W.cell? ⟨g, 2, none⟩ = some t := ⟨h.all.1, h.all.2.1, h.all.2.2.1⟩

set_option maxHeartbeats 16000000 in
theorem vspeaks_true (w : World) : Calls Tryz.prog 38 #[] w fun e w' => e = .returned (.bool true) ∧ Below w.heap.size w w' := by
  go_enter Tryz.func38, Tryz.ntmps38
  go_wp2_with fail
  refine (whole5_c w 2 (by omega) (by omega)).mono ?_
  rintro e w1 ⟨x1, rfl, h1, c1, b1⟩
  go_wp2_with fail
  refine (whole5_c w1 1 (by omega) (by omega)).mono ?_
  rintro e w2 ⟨x2, rfl, h2, c2, b2⟩
  go_wp2_with fail
  refine (whole5_c w2 (-2) (by omega) (by omega)).mono ?_
  rintro e w3 ⟨x3, rfl, h3, c3, b3⟩
  have B3 := hide (Below.step (Below.step b1 b1.size b2) (Below.step b1 b1.size b2).size b3)
  have al := alloc_below w3 (.cells #[.int .i64 1, .bool x1.s, sv x1.u, sv x1.t, .int .i64 0, .bool x2.s, sv x2.u, sv x2.t, .int .i64 1, .bool x3.s, sv x3.u, sv x3.t] 63)
  have T3 := hide (show Tv (w3.alloc (.cells #[.int .i64 1, .bool x1.s, sv x1.u, sv x1.t, .int .i64 0, .bool x2.s, sv x2.u, sv x2.t, .int .i64 1, .bool x3.s, sv x3.u, sv x3.t] 63)) (.slice (some ⟨w3.heap.size, 0, none⟩) 3 3) [⟨1, x1⟩, ⟨0, x2⟩, ⟨1, x3⟩] 6 from
    ⟨(Ow.lit (B := w3.heap.size) et_len w3 63 [⟨1, x1⟩, ⟨0, x2⟩, ⟨1, x3⟩] _ rfl (Nat.le_refl _) (by simp [maxLen])).rl et_len, fun y hy => by
      simp at hy
      rcases hy with rfl | rfl | rfl
      · exact (((c1.step b2).step b3).step al).ra
      · exact ((c2.step b3).step al).ra
      · exact (c3.step al).ra⟩)
  have B4 := hide (Below.step B3.out B3.out.size al)
  have E3 := hide (show tms [⟨1, x1⟩, ⟨0, x2⟩, ⟨1, x3⟩] = [(1, ((2 : Int) : Rat)), (0, ((1 : Int) : Rat)), (1, ((-2 : Int) : Rat))] by simp [tms, tm, h1, h2, h3])
  clear b1 b2 b3 c1 c2 c3 h1 h2 h3 al B3
  go_wp2_with fail
  refine (make_v T3.out (by simp) (by omega) (by omega)).mono ?_
  rintro e w4 ⟨v, d', rfl, t4, f4, g4, n4, b4⟩
  have HD := hide (show tms d' = [(0, 1)] from Fm.unique f4 ex_fm (fun c hc => by rw [g4 c hc, E3.out]; exact ex_make c))
  have VT := hide t4.tc
  have HL := hide n4
  have B := hide (Below.step B4.out B4.out.size b4)
  obtain ⟨A, n, c, rfl⟩ := rv_sl t4.tc.1
  simp only [List.length_cons, List.length_nil] at VT HL
  clear t4 f4 g4 n4 b4 B4 T3 E3
  go_wp2_with fail
  refine (whole5_c w4 3 (by omega) (by omega)).mono ?_
  rintro e w5 ⟨y1, rfl, h1, c1, b1⟩
  go_wp2_with fail
  refine (whole5_c w5 1 (by omega) (by omega)).mono ?_
  rintro e w6 ⟨y2, rfl, h2, c2, b2⟩
  have al := alloc_below w6 (.cells #[.int .i64 0, .bool y1.s, sv y1.u, sv y1.t, .int .i64 5, .bool y2.s, sv y2.u, sv y2.t] 63)
  have T6 := hide (show Tv (w6.alloc (.cells #[.int .i64 0, .bool y1.s, sv y1.u, sv y1.t, .int .i64 5, .bool y2.s, sv y2.u, sv y2.t] 63)) (.slice (some ⟨w6.heap.size, 0, none⟩) 2 2) [⟨0, y1⟩, ⟨5, y2⟩] 6 from
    ⟨(Ow.lit (B := w6.heap.size) et_len w6 63 [⟨0, y1⟩, ⟨5, y2⟩] _ rfl (Nat.le_refl _) (by simp [maxLen])).rl et_len, fun y hy => by
      simp at hy
      rcases hy with rfl | rfl
      · exact ((c1.step b2).step al).ra
      · exact (c2.step al).ra⟩)
  have E6 := hide (show tms [⟨0, y1⟩, ⟨5, y2⟩] = [(0, ((3 : Int) : Rat)), (5, ((1 : Int) : Rat))] by simp [tms, tm, h1, h2])
  have bx := Below.step (Below.step b1 b1.size b2) (Below.step b1 b1.size b2).size al
  replace VT := hide (VT.out.step bx)
  replace B := hide (Below.step B.out B.out.size bx)
  clear b1 b2 c1 c2 h1 h2 al bx
  go_wp2_with fail
  generalize (w6.alloc (.cells #[.int .i64 0, .bool y1.s, sv y1.u, sv y1.t, .int .i64 5, .bool y2.s, sv y2.u, sv y2.t] 63)) = w7 at *
  refine (whole5_c w7 2 (by omega) (by omega)).mono ?_
  rintro e w8 ⟨z1, rfl, h1, c1, b1⟩
  go_wp2_with fail
  refine (whole5_c w8 7 (by omega) (by omega)).mono ?_
  rintro e w9 ⟨z2, rfl, h2, c2, b2⟩
  have al := alloc_below w9 (.cells #[.bool z1.s, sv z1.u, sv z1.t, .bool z2.s, sv z2.u, sv z2.t] 26)
  have F9 := hide (show Fv (w9.alloc (.cells #[.bool z1.s, sv z1.u, sv z1.t, .bool z2.s, sv z2.u, sv z2.t] 26)) (.slice (some ⟨w9.heap.size, 0, none⟩) 2 2) [z1, z2] 6 from
    ⟨(Ow.lit (B := w9.heap.size) er_len w9 26 [z1, z2] _ rfl (Nat.le_refl _) (by simp [maxLen])).rl er_len, fun y hy => by
      simp at hy
      rcases hy with rfl | rfl
      · exact ((c1.step b2).step al).ra
      · exact (c2.step al).ra⟩)
  have bx := Below.step (Below.step b1 b1.size b2) (Below.step b1 b1.size b2).size al
  have E9 := hide (ex_dot h1 h2)
  have DT := hide (dot_g (T6.out.step bx) F9.out (by simp) (by omega) (by omega) (by omega) (by omega))
  rw [E6.out, E9.out] at DT
  replace VT := hide (VT.out.step bx)
  replace B := hide (Below.step B.out B.out.size bx)
  clear b1 b2 c1 c2 h1 h2 al bx T6 F9 E6 E9
  go_wp2_with fail
  refine DT.out.mono ?_
  rintro e wa ⟨xd, rfl, hd, rd, b1⟩
  have al := alloc_below wa (rbox xd.s (sv xd.u) (sv xd.t))
  have DQ := hide (Bq.new wa xd.s (sv xd.u) (sv xd.t))
  have DC := hide (rd.1.step al)
  have HX := hide hd
  replace VT := hide ((VT.out.step b1).step al)
  replace B := hide (Below.step (Below.step B.out B.out.size b1) (Below.step B.out B.out.size b1).size al)
  clear rd hd b1 al DT
  go_wp2_with fail
  generalize (wa.alloc (rbox xd.s (sv xd.u) (sv xd.t))) = wb at *
  generalize wa.heap.size = g2 at *
  have bx := Below.drew (Below.refl wb.heap.size wb)
  replace DQ := hide (DQ.out.step bx)
  replace DC := hide (DC.out.step bx)
  replace VT := hide (VT.out.step bx)
  replace B := hide (Below.step B.out B.out.size bx)
  clear bx
  go_region_held3 (fun W => W.cell? ⟨g2, 0, none⟩ = some (.bool xd.s) ∧ W.cell? ⟨g2, 1, none⟩ = some (sv xd.u) ∧ W.cell? ⟨g2, 2, none⟩ = some (sv xd.t))
    (first | with_reducible exact bq3 DQ.out | with_reducible exact bq3 (DQ.out.step (alloc_below _ _)))
    (first
      | (go_at_call 115; refine Calls.mono (whole5_c _ 1 (by omega) (by omega)) ?_; rintro e wx ⟨xa, rfl, ha, ca, bx⟩; replace VT := hide (VT.out.step bx); replace DQ := hide (DQ.out.step bx); replace DC := hide (DC.out.step bx); replace B := hide (Below.step B.out B.out.size bx); replace XG := hide (XG.out.step bx); have XA := hide (show Rc wx (rx xa) xg.r 6 by rw [HG.out, ← show ((1 : Int) : Rat) = 1 from rfl, ← ha]; exact ca); clear ca ha bx)
      | (go_at_call 115; refine Calls.mono (whole5_c _ 6 (by omega) (by omega)) ?_; rintro e wx ⟨xs, rfl, hs, cs, bx⟩; replace VT := hide (VT.out.step bx); replace DQ := hide (DQ.out.step bx); replace DC := hide (DC.out.step bx); replace B := hide (Below.step B.out B.out.size bx); have XS := hide (show Rc wx (rx xs) xd.r 6 by rw [HX.out, ← hs]; exact cs); clear cs hs bx)
      | (go_at_call 43; refine Calls.mono (same_t (VT.out.step (alloc_below _ _)) (lit1 0 XA.out) HQ.out) ?_; rintro e wx ⟨rfl, bx⟩; replace bx := (alloc_below _ _).trans (bx.mono (alloc_below _ _).size); replace VT := hide (VT.out.step bx); replace DQ := hide (DQ.out.step bx); replace DC := hide (DC.out.step bx); replace B := hide (Below.step B.out B.out.size bx); clear bx)
      | (go_at_call 37; refine Calls.mono (rsame_c DC.out XS.out) ?_; rintro e wx ⟨rfl, bx⟩; replace VT := hide (VT.out.step bx); replace DQ := hide (DQ.out.step bx); replace DC := hide (DC.out.step bx); replace B := hide (Below.step B.out B.out.size bx); clear bx)
      | (go_at_call 42; refine Calls.mono (get_g (col := 0) VT.out.tv (by have := HL.out; omega) (by omega) (by omega)) ?_; rintro e wx ⟨xg, rfl, hg, rg, bx⟩; replace VT := hide (VT.out.step bx); replace DQ := hide (DQ.out.step bx); replace DC := hide (DC.out.step bx); replace B := hide (Below.step B.out B.out.size bx); have XG := hide rg.1; have HG := hide (show xg.r = 1 by rw [hg, HD.out]; exact ex_get); clear rg hg bx)
      | (go_at_call 115; refine Calls.mono (whole5_c _ 1 (by omega) (by omega)) ?_; rintro e wx ⟨xa, rfl, ha, ca, bx⟩; replace VT := hide (VT.out.step bx); replace DQ := hide (DQ.out.step bx); replace DC := hide (DC.out.step bx); replace B := hide (Below.step B.out B.out.size bx); have XA := hide ca; have HA := hide ha; have HQ := hide (show tms d' = tms [⟨0, xa⟩] by rw [HD.out]; simp [tms, tm, ha]); clear ca ha bx)
      | (go_at_call 37; refine Calls.mono (rsame_c XG.out XA.out) ?_; rintro e wx ⟨rfl, bx⟩; replace VT := hide (VT.out.step bx); replace DQ := hide (DQ.out.step bx); replace DC := hide (DC.out.step bx); replace B := hide (Below.step B.out B.out.size bx); clear bx))
  all_goals
    clear VT DQ DC
    go_wp2_with fail
    go_ret
    exact ⟨rfl, B.out⟩
end Go.Proofs.YtajjpepjbflojaaGreat
