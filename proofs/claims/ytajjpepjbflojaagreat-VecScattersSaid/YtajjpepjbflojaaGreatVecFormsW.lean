/-
  The walk of VecForms: true.
-/
import Derived.Test.YtajjpepjbflojaaGreatBundleH


namespace Go.Proofs.YtajjpepjbflojaaGreat
open Go.RowKit Go.Proofs.YtajjpepjbflojaaGreat.Num
set_option linter.unusedVariables false
set_option linter.unusedSimpArgs false
set_option maxRecDepth 100000

theorem Bq.spo {W W' : World} {B g : Nat} {row : Option Nat} {s : Bool} {u t : Value} (h : Bq W g s u t) (k : Spo B row W W') (hr : row ≠ some g) : Bq W' g s u t := k.2.2.2 g _ _ _ (by decide) (Ne.symm hr) h
theorem Ow.box_ne {W : World} {B g : Nat} {v : Value} {d : List Tx} {s : Bool} {u t : Value} (h : Ow 63 et 4 W B v d) (hq : Bq W g s u t) : v.ownBlock ≠ some g := by
  intro he
  rcases h.form with ⟨rfl, _⟩ | ⟨g', cap', cur, rfl, _, _, hh', _⟩
  · cases he
  · have e : g' = g := by simpa [Value.ownBlock] using he
    subst e
    unfold Bq at hq
    rw [hq] at hh'
    injection hh' with hh'
    injection hh' with _ ht
    exact absurd ht (by decide)

set_option maxHeartbeats 16000000 in
theorem vforms_go (w : World) (v : Value) (d : List Tx) (col : Int) (hv : Tv w v d 17592186043904) (hw : (Lit.int .i64 col).wf = true) :
    Calls Tryz.prog 4 #[v, .int .i64 col] w fun e w' => e = .returned (.bool true) ∧ Below w.heap.size w w' := by
  obtain ⟨A1, n1, c1, rfl⟩ := rv_sl hv.1
  have V := hide hv
  clear hv hw
  go_enter Tryz.func4, Tryz.ntmps4
  go_wp2_with fail
  refine (vspeaks_true w).mono ?_
  rintro e w2 ⟨rfl, bx⟩
  replace V := hide (V.out.step bx)
  have B := hide bx
  clear bx
  go_wp2_with fail
  refine (great_c V.out (by omega)).mono ?_
  rintro e w3 ⟨bx, p, rfl, hp⟩
  replace V := hide (V.out.step bx)
  replace B := hide (Below.step B.out B.out.size bx)
  have HP := hide hp
  clear bx hp
  cases p with
  | true =>
    go_wp2_with fail
    go_ret
    exact ⟨rfl, B.out⟩
  | false =>
    obtain ⟨dl, dw⟩ := HP.out rfl
    replace V := hide (V.out.tight dw)
    have DL := hide dl
    obtain ⟨zs, tl⟩ := tl_of V.out
    have TL := hide tl
    clear dl dw HP tl V
    go_wp2_with fail
    refine (copy_v TL.out (by omega) (by have := DL.out; omega)).mono ?_
    rintro e w4 ⟨v4, d4, rfl, t4, bx⟩
    obtain ⟨A4, n4, c4, rfl⟩ := rv_sl t4.tl.1
    replace TL := hide (TL.out.step bx)
    replace B := hide (Below.step B.out B.out.size bx)
    have T4 := hide t4.tl
    have M4 := hide (t4.tl.tms TL.out)
    have N4 := hide (show d4.length ≤ 30 by have := DL.out; have := t4.2.1; have := TL.out.2.1; omega)
    clear bx t4
    go_wp2_with fail
    refine (make_v T4.out.tv (by have := N4.out; omega) (by omega) (by omega)).mono ?_
    rintro e w5 ⟨v5, d5, rfl, t5, f5, g5, n5, bx⟩
    have T5 := hide t5
    have F5 := hide f5
    have G5 := hide (show ∀ c, 0 ≤ c → gsum (tms d5) c = gsum (tms d) c by rw [← M4.out]; exact g5)
    have N5 := hide (show d5.length ≤ 30 by have := N4.out; omega)
    have L5 := hide (show d4.length * (6 + 1) + 1 ≤ 1000 by have := N4.out; omega)
    obtain ⟨A5, n5', c5, rfl⟩ := rv_sl t5.tv.1
    have C := hide bx
    clear bx t5 f5 g5 n5
    go_wp2_with fail
    refine (get_g (col := col) (T4.out.step C.out).tv (by have := N4.out; omega) (by omega) (by omega)).mono ?_
    rintro e w6 ⟨x6, rfl, h6, r6, bx⟩
    have by_ := bx.trans ((alloc_below w6 (rbox x6.s (sv x6.u) (sv x6.t))).mono bx.size)
    have T7 := hide (T5.out.step by_)
    have X7 := hide ((r6.step (alloc_below w6 (rbox x6.s (sv x6.u) (sv x6.t)))).mono (B' := w4.heap.size) C.out.size)
    have Q7 := hide (Bq.new w6 x6.s (sv x6.u) (sv x6.t))
    have H6 := hide (show x6.r = gt (tms d) col by rw [h6, M4.out])
    have C7 := hide (Below.step C.out C.out.size by_)
    obtain ⟨p0, p1, p2⟩ := bq3 Q7.out
    clear T5 C r6 h6 by_ bx
    go_wp2_with fail
    generalize (w6.alloc (rbox x6.s (sv x6.u) (sv x6.t))) = w7 at *
    generalize w6.heap.size = g7 at *
    have b8 := (Below.refl w7.heap.size w7).drew
    have T8 := hide (T7.out.step b8)
    have X8 := hide (X7.out.step b8)
    have Q8 := hide (Q7.out.step b8)
    have C8 := hide (Below.step C7.out C7.out.size b8)
    have V8 := hide ((TL.out.step C8.out).tv)
    clear b8 T7 X7 Q7 C7 p0 p1 p2
    go_region_held3 (fun W => W.cell? ⟨g7, 0, none⟩ = some (.bool x6.s) ∧ W.cell? ⟨g7, 1, none⟩ = some (sv x6.u) ∧ W.cell? ⟨g7, 2, none⟩ = some (sv x6.t))
      (exact bq3 Q8.out)
      (first
        | (go_at_call 44; refine Calls.mono (vmake_f V8.out (by have := DL.out; omega) (by omega) (by omega)) ?_; rintro e wx ⟨v9, d9, rfl, t9, f9, g9, bx⟩; have T9 := hide t9; have E9 := hide (Fm.unique F5.out f9 (fun c hc => (G5.out c hc).trans (g9 c hc).symm)); replace T8 := hide (T8.out.step bx); replace X8 := hide (X8.out.step bx); replace Q8 := hide (Q8.out.step bx); replace V8 := hide (V8.out.step bx); replace C8 := hide (Below.step C8.out C8.out.size bx); clear t9 f9 g9 bx)
        | (go_at_call 43; refine Calls.mono (same_t T8.out.tc T9.out E9.out) ?_; rintro e wx ⟨rfl, bx⟩; replace T8 := hide (T8.out.step bx); replace X8 := hide (X8.out.step bx); replace Q8 := hide (Q8.out.step bx); replace V8 := hide (V8.out.step bx); replace C8 := hide (Below.step C8.out C8.out.size bx); clear bx)
        | (go_at_call 45; refine Calls.mono (vget_f (col := col) V8.out (by have := DL.out; omega) (by omega) (by omega)) ?_; rintro e wx ⟨x9, rfl, h9, r9, bx⟩; have R9 := hide r9; have H9 := hide h9; replace T8 := hide (T8.out.step bx); replace X8 := hide (X8.out.step bx); replace Q8 := hide (Q8.out.step bx); replace C8 := hide (Below.step C8.out C8.out.size bx); clear r9 h9 bx)
        | (go_at_call 26; refine Calls.mono (rfto_f R9.out (by have := DL.out; omega)) ?_; rintro e wx ⟨y9, rfl, k9, s9, bx⟩; have Y9 := hide (show Rc wx (rx y9) x6.r _ by rw [H6.out, ← H9.out, ← k9]; exact s9); replace T8 := hide (T8.out.step bx); replace X8 := hide (X8.out.step bx); replace Q8 := hide (Q8.out.step bx); replace C8 := hide (Below.step C8.out C8.out.size bx); clear s9 k9 bx)
        | (go_at_call 37; refine Calls.mono (rsame_c X8.out.1 Y9.out) ?_; rintro e wx ⟨rfl, bx⟩; replace T8 := hide (T8.out.step bx); replace X8 := hide (X8.out.step bx); replace Q8 := hide (Q8.out.step bx); replace C8 := hide (Below.step C8.out C8.out.size bx); clear bx))
    all_goals
      generalize wx = w8 at *
      clear V8
      go_wp2_with fail
      refine (spoil_v (T8.out.sp (by have := L5.out; omega)) C8.out.size (by have := N5.out; omega)).mono ?_
      rintro e w9 ⟨rfl, sp⟩
      have Q9 := hide (Q8.out.spo sp (T8.out.1.box_ne Q8.out))
      have U9 := hide (sp.2.2.1 _ _ X8.out.2.1)
      have W9 := hide (sp.2.2.1 _ _ X8.out.2.2)
      have K9 := hide X8.out.1.n_le
      have C9 := hide (C8.out.trans sp.1)
      have S9 := hide (Nat.le_trans C8.out.size sp.2.1)
      obtain ⟨p0, p1, p2⟩ := bq3 Q9.out
      clear sp T8 X8 Q8 C8
      go_wp2_with fail
      refine (rspoil_w (s := x6.s) U9.out W9.out (show x6.u.2.1 ≤ maxLen by have := K9.out.1; have := N4.out; unfold maxLen; omega) (show x6.t.2.1 ≤ maxLen by have := K9.out.2; have := N4.out; unfold maxLen; omega) S9.out).mono ?_
      rintro e w10 ⟨rfl, sp⟩
      have C10 := hide (C9.out.trans sp.1)
      clear sp Q9 U9 W9 K9 C9 S9 p0 p1 p2
      go_wp2_with fail
      refine (same_v (T4.out.step C10.out) (TL.out.step C10.out)).mono ?_
      rintro e w11 ⟨rfl, bx⟩
      have C11 := hide (Below.step C10.out C10.out.size bx)
      clear bx C10
      go_wp2_with fail
      go_ret
      exact ⟨rfl, Below.step B.out B.out.size C11.out⟩
end Go.Proofs.YtajjpepjbflojaaGreat
