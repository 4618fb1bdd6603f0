/-
  fields.Lines: the walk.
-/
import Derived.Test.YtinbeodihhjfmaaFld4
namespace Go.Proofs.Ytinbeodihhjfmaa
open Go Go.RowKit Go.Shelf
set_option linter.unusedVariables false
set_option linter.unusedSimpArgs false
set_option maxRecDepth 100000

section
attribute [local go_sem] Oper.semAt_some
set_option maxHeartbeats 8000000 in
theorem flines_f (s : Bs) (w : World) (hs0 : s.length ≤ 9223372036854775807) : Calls Try.prog 6 #[.string (ba s)] w (FlOut w s) := by
  obtain ⟨T, hT⟩ : ∃ T, T = ba s := ⟨_, rfl⟩
  have hz : T.size = s.length := by rw [hT]; exact ba_size s
  rw [← hT]
  refine (callsIn_wide (n := 8)).1 ?_
  refine callsIn_of_wp_marks Try.func6 rfl trivial ?_ rfl
  simp only [Try.ntmps6, List.size_toArray, List.length_cons, List.length_nil, Nat.reduceAdd, Nat.reduceSub, Array.replicate_succ, Array.replicate_zero, List.push_toArray, List.append_toArray, List.nil_append, List.cons_append]
  by_cases hbig : 65536 < s.length
  · have q0 : decide ((65536 : Int) < (T.size : Int)) = true := decide_eq_true (by omega)
    have q1 : decide (65536 < T.size) = true := decide_eq_true (by omega)
    have HT := hide hT
    have HB := hide hbig
    clear hT hbig hz hs0
    gi_wp2
    obtain ⟨WE, hWE⟩ : ∃ WE, ((w.alloc (.cells #[.slice none 0 0] 23)).alloc (.cells #[.int .i64 1] 24)).alloc (.cells #[.int .i64 0] 3) = WE := ⟨_, rfl⟩
    have c0 : WE.cell? ⟨w.heap.size, 0, none⟩ = some (.slice none 0 0) := by
      rw [← hWE]; exact (((Boxed.new w 23 (.slice none 0 0)).alloc _).alloc _).cell
    have c1 : WE.cell? ⟨w.heap.size + 1, 0, none⟩ = some (.int .i64 1) := by
      have h := ((Boxed.new (w.alloc (.cells #[.slice none 0 0] 23)) 24 (.int .i64 1)).alloc (.cells #[.int .i64 0] 3)).cell
      rw [World.size_alloc, hWE] at h; exact h
    have c2 : WE.cell? ⟨w.heap.size + 1 + 1, 0, none⟩ = some (.int .i64 0) := by
      have h := (Boxed.new ((w.alloc (.cells #[.slice none 0 0] 23)).alloc (.cells #[.int .i64 1] 24)) 3 (.int .i64 0)).cell
      rw [World.size_alloc, World.size_alloc, hWE] at h; exact h
    have hbe : Below w.heap.size w WE := by
      rw [← hWE]; exact (((Below.refl _ w).alloc (Nat.le_refl _) _).alloc (by simp) _).alloc (by simp; omega) _
    rw [hWE]
    refine ⟨.tuple #[.slice none 0 0, .int .i64 1, .int .i64 0], ?_, hbe, .inl ⟨HB.out, rfl⟩⟩
    simp [results, Try.f6, go_sem, c0, c1, c2]
  · have q0 : decide ((65536 : Int) < (T.size : Int)) = false := decide_eq_false (by omega)
    have q1 : decide (65536 < T.size) = false := decide_eq_false (by omega)
    have HT := hide hT
    have HB := hide hbig
    have HZ := hide hz
    have CL := hide (fun W => clone_f T W (by omega))
    clear hT hbig hz hs0
    gi_wp2_with (refine ⟨trivial, ?_⟩; first | (gi_at_call 9; refine (callsIn_wide.2 (CL.out _)).mono ?_; rintro e w2 ⟨rfl, hb2⟩) | (gi_at_call 8; refine (callsIn_wide.2 (lines_f _ _)).mono ?_; rintro e w3 ⟨rfl, rfl⟩))
    obtain ⟨WL, hWL⟩ : ∃ WL, w2.alloc (.cells #[.string T] 9) = WL := ⟨_, rfl⟩
    have hbx : Boxed WL w2.heap.size 9 (.string T) := by rw [← hWL]; exact Boxed.new _ _ _
    have hbw : w2.heap.size < WL.heap.size := hbx.lt
    have S2 := hide (show St w WL.heap.size 0 (.slice none 0 0) [] [] w2 from by
      refine St.step ?_ hb2
      have s0 : ∀ (W : World) o, (W.alloc o).heap.size = W.heap.size + 1 := fun W o => World.size_alloc W o
      refine ⟨?_, ?_, ?_, ?_, ?_, ⟨Ow.nil _ _ _ _ _, fun x hx => by cases hx⟩, rfl, ?_⟩
      · exact ((((Boxed.new w 23 (.slice none 0 0)).alloc _).alloc _).alloc _).alloc _
      · have h := (((Boxed.new (w.alloc (.cells #[.slice none 0 0] 23)) 24 (.int .i64 0)).alloc (.cells #[.int .i64 0] 3)).alloc (.cells #[.slice none 0 0] 23)).alloc (.cells #[.int .i64 0] 3)
        rw [s0] at h; exact h
      · have h := ((Boxed.new ((w.alloc (.cells #[.slice none 0 0] 23)).alloc (.cells #[.int .i64 0] 24)) 3 (.int .i64 0)).alloc (.cells #[.slice none 0 0] 23)).alloc (.cells #[.int .i64 0] 3)
        rw [s0, s0] at h; exact h
      · have h := (Boxed.new (((w.alloc (.cells #[.slice none 0 0] 23)).alloc (.cells #[.int .i64 0] 24)).alloc (.cells #[.int .i64 0] 3)) 23 (.slice none 0 0)).alloc (.cells #[.int .i64 0] 3)
        rw [s0, s0, s0] at h; exact h
      · have h := Boxed.new ((((w.alloc (.cells #[.slice none 0 0] 23)).alloc (.cells #[.int .i64 0] 24)).alloc (.cells #[.int .i64 0] 3)).alloc (.cells #[.slice none 0 0] 23)) 3 (.int .i64 0)
        rw [s0, s0, s0, s0] at h; exact h
      · exact (((((Below.refl _ w).alloc (Nat.le_refl _) _).alloc (by simp) _).alloc (by simp; omega) _).alloc (by simp; omega) _).alloc (by simp; omega) _)
    have hAL : Below w2.heap.size w2 WL := by rw [← hWL]; exact (Below.refl _ w2).alloc (Nat.le_refl _) _
    have S0 := hide (S2.out.step hAL)
    have h5 : w.heap.size + 5 ≤ w2.heap.size := by have := hb2.size; simp at this; omega
    have H5 := hide h5
    have HBX := hide hbx
    have HBW := hide hbw
    rw [hWL]
    clear hb2 hWL hbx hbw S2 h5 CL hAL
    refine range_box rfl (by omega) (gf := 15) (lb := #[.pointer (some ⟨w2.heap.size, 0, none⟩)]) rfl trivial (enters_of Try.func15 (by kernel_rfl) rfl) (encs := fun x : Bs => #[.string (ba x)]) (S := fun xs => xs = lnsOf s) (Sp := fun pre => pre <+: lnsOf s) (G := fun pre x => (pre ++ [x]) <+: lnsOf s) (b := w2.heap.size) HBW.out
      (fun l J Jx W hW hJ hJx hY h0 => lines1_in (8 - 1) (by omega) l w2.heap.size s (by have := HB.out; omega) J Jx hJ hY W (by rw [← HT.out]; exact bxs HBX.out hW) h0) (fun _ => rfl)
      (fun pre W => badAt 0 pre = none ∧ WL.heap.size ≤ W.heap.size ∧ ∃ v d, St w WL.heap.size pre.length v d (good 0 pre) W)
      (fun c pre W => c = .ret ∧ badAt 0 pre = some pre.length ∧ Boxed W w.heap.size 23 (.slice none 0 0) ∧ Boxed W (w.heap.size + 1) 24 (.int .i64 80) ∧ Boxed W (w.heap.size + 1 + 1) 3 (.int .i64 (pre.length : Int)) ∧ Below w.heap.size w W)
      ?hI ?hIx ?hIb ?hIxb ⟨rfl, Nat.le_refl _, _, _, S0.out⟩
      (fun x a' W => a' = { tmps := #[.string T, undef, .pointer (some ⟨w.heap.size, 0, none⟩), .pointer (some ⟨w.heap.size + 1, 0, none⟩), .pointer (some ⟨w.heap.size + 1 + 1, 0, none⟩), .pointer (some ⟨w.heap.size + 1 + 1 + 1, 0, none⟩), .pointer (some ⟨w.heap.size + 1 + 1 + 1 + 1, 0, none⟩), .string (ba x), undef, .string T, .int .i64 T.size, .bool false, .string T, .string T, .func (.func 15) #[] #[.pointer (some ⟨w2.heap.size, 0, none⟩)], .string (ba x), undef, undef, undef, undef, undef, undef, undef, undef, undef, undef, undef, undef, undef, undef, undef, undef, undef, undef, undef, undef, undef, undef, undef, undef, undef, undef, undef, undef, undef, undef, undef], defers := [] }) (fun x a' => ownFrom_pure _ _) ?assign ?body ?done ?stop
    case hI =>
      rintro pre X Y row ⟨h1, h3, v, d, h2⟩ hg hr
      exact ⟨h1, Nat.le_trans h3 hg.size, v, d, h2.grown hg (fun r e => ⟨by have := (hr r e).1; have := HBW.out; have := H5.out; omega, .inr (hr r e).2⟩)⟩
    case hIx =>
      rintro c pre X Y row ⟨h1, h2, b0, b1, b2, bl⟩ hg hr
      have hx : ∀ j, j ≤ 4 → some (w.heap.size + j) ≠ row := fun j hj e => by have := (hr _ e.symm).1; have := HBW.out; have := H5.out; omega
      exact ⟨h1, h2, b0.kept hg (hx 0 (by omega)), b1.kept hg (hx 1 (by omega)), b2.kept hg (hx 2 (by omega)), bl.grown hg bl.size (fun r e => by have := (hr r e).1; have := HBW.out; have := H5.out; omega)⟩
    case hIb =>
      rintro pre X Y row ⟨h1, h3, v, d, h2⟩ hg hr
      exact ⟨h1, Nat.le_trans h3 hg.size, v, d, h2.grown hg (fun r e => by have e2 := hr r e; subst e2; exact ⟨H5.out, .inl HBW.out⟩)⟩
    case hIxb =>
      rintro c pre X Y row ⟨h1, h2, b0, b1, b2, bl⟩ hg hr
      have hx : ∀ j, j ≤ 4 → some (w.heap.size + j) ≠ row := fun j hj e => by have := hr _ e.symm; have := H5.out; omega
      exact ⟨h1, h2, b0.kept hg (hx 0 (by omega)), b1.kept hg (hx 1 (by omega)), b2.kept hg (hx 2 (by omega)), bl.grown hg bl.size (fun r e => by have := hr r e; have := H5.out; omega)⟩
    case assign =>
      intro l pre x W K hi hK
      gi_wp2
      exact hK _ _ (KeepsFrom.refl _ _) rfl hi rfl
    case body =>
      rintro l pre x a' W ⟨hbad, hbw2, v, d, hS⟩ rfl hG
      have WLW := hide hbw2
      have BW2 := hide (Nat.lt_of_lt_of_le HBW.out hbw2)
      have S := hide hS
      have hno := hS.2.2.2.2.1.cell
      have hfn := hS.2.2.2.2.1.frozen
      have hxl : x.length ≤ 65536 := by
        obtain ⟨r, hr⟩ := hG
        have h1 := (lnsOf_mem_len s x (by rw [← hr]; simp)).1
        have := HB.out
        omega
      have hpl : pre.length ≤ 65536 := by
        obtain ⟨r, hr⟩ := hG
        have h1 := lnsOf_len s
        rw [← hr] at h1
        simp at h1
        have := HB.out
        omega
      have T1 := hide (fun W => trim_f x [10] hxl W)
      have T2 := hide (fun W => trim_f (Lib.trimSuffix x [10]) [13] (Nat.le_trans (trim_len _ _) hxl) W)
      have XL := hide hxl
      have PL := hide hpl
      have BAD := hide hbad
      have GG := hide hG
      clear hS hG hbad hxl hbw2
      gi_wp2_with (refine ⟨trivial, ?_⟩; first | (gi_at_call 10; refine (CallsIn.inRound l (callsIn_wide.2 (T1.out _))).mono ?_; rintro e w9 ⟨rfl, rfl⟩) | (gi_at_call 10; refine (CallsIn.inRound l (callsIn_wide.2 (T2.out _))).mono ?_; rintro e w9 ⟨rfl, rfl⟩))
      have S1 := hide (S.out.no (by have := HBW.out; have := H5.out; omega))
      have K1 := hide ((Kt.refl WL.heap.size w2.heap.size W).grown BW2.out (only_set (p := ⟨w.heap.size + 1 + 1 + 1 + 1, 0, none⟩) (only_refl W _) rfl (.int .i64 ((pre.length : Int) + 1))) (fun r e => by
        have e : some (w.heap.size + 1 + 1 + 1 + 1) = some r := e
        injection e with e
        have := HBW.out
        have := H5.out
        exact ⟨by omega, .inl (by omega)⟩))
      obtain ⟨Y, hY⟩ : ∃ Y, ba (Lib.trimSuffix (Lib.trimSuffix x [10]) [13]) = Y := ⟨_, rfl⟩
      have CF := hide (show ∀ W, Calls Try.prog 11 #[.string Y, .func (.func 12) #[] #[]] W fun e w' => e = .returned (.bool (badL x)) ∧ Below W.heap.size W w' from fun W => by
        have h := Try.strings_ContainsFunc 12 #[] (enters_of Try.func12 (by kernel_rfl) rfl) fgn Y W (pred_foreign W)
        rw [← hY] at h ⊢
        exact h)
      have YY := hide hY
      rw [hY]
      clear hY hno hfn T1 T2 S
      generalize (W.setCell { block := w.heap.size + 1 + 1 + 1 + 1, off := 0 } (Value.int IntKind.i64 (↑pre.length + 1))) = W1 at *
      refine ⟨trivial, ?_⟩
      gi_at_call 11
      refine (CallsIn.inRound l (callsIn_wide.2 (CF.out _))).mono ?_
      rintro e W2 ⟨rfl, hb⟩
      have S2 := hide (S1.out.step hb)
      have K2 := hide (K1.out.step BW2.out hb)
      clear hb CF S1 K1
      cases hbx : badL x with
      | true =>
        have BX := hide hbx
        obtain ⟨b0, b1, b2, b3, b4, L, ee, bl⟩ := S2.out
        have c0 := b0.cell
        have f0 := b0.frozen
        have c1 := b1.cell
        have f1 := b1.frozen
        have c2 := b2.cell
        have f2 := b2.frozen
        have c4 := b4.cell
        have hmx : Try.prog.follows .mixedOrders = true := by kernel_rfl
        have E3 := hide (And.intro b0 (And.intro b1 (And.intro b2 bl)))
        clear b0 b1 b2 b3 b4 L ee bl
        gi_wp2
        gi_region_with_o (fail)
        all_goals gi_wp2
        all_goals
          obtain ⟨b0, b1, b2, bl⟩ := E3.out
          have k1 := ((K2.out.set BW2.out H5.out HBW.out (j := w.heap.size) (by omega) (.slice none 0 0)).set BW2.out H5.out HBW.out (j := w.heap.size + 1) (by omega) (.int .i64 80)).set BW2.out H5.out HBW.out (j := w.heap.size + 1 + 1) (by omega) (.int .i64 ((pre.length : Int) + 1))
          refine ⟨k1.drew.1, rfl, ?_, ?_, ?_, ?_, ?_⟩
          · rw [badAt_snoc BAD.out, BX.out]
            simp
          · exact ((b0.set (.slice none 0 0)).other (by omega) _).other (by omega) _
          · exact ((b1.other (by omega) _).set (.int .i64 80)).other (by omega) _
          · have h := ((b2.other (show w.heap.size + 1 + 1 ≠ w.heap.size by omega) (.slice none 0 0)).other (show w.heap.size + 1 + 1 ≠ w.heap.size + 1 by omega) (.int .i64 80)).set (.int .i64 ((pre.length : Int) + 1))
            rw [show (((pre ++ [x]).length : Nat) : Int) = (pre.length : Int) + 1 by simp]
            exact h
          · exact (((bl.setCell (p := ⟨w.heap.size, 0, none⟩) (Nat.le_refl _) _).setCell (p := ⟨w.heap.size + 1, 0, none⟩) (by show w.heap.size ≤ w.heap.size + 1; omega) _).setCell (p := ⟨w.heap.size + 1 + 1, 0, none⟩) (by show w.heap.size ≤ w.heap.size + 1 + 1; omega) _).drew
      | false =>
        have BX := hide hbx
        have YS := hide (show Y.size ≤ 65536 by
          rw [← YY.out, ba_size]
          exact Nat.le_trans (trim_len _ _) (Nat.le_trans (trim_len _ _) XL.out))
        have FF := hide (show ∀ W, Calls Try.prog 13 #[.string Y, .func (.func 14) #[] #[]] W fun e w' => ∃ A, e = .returned (.slice (some ⟨A, 0, none⟩) (wds x).length (wds x).length) ∧ Ow 9 es 1 w' W.heap.size (.slice (some ⟨A, 0, none⟩) (wds x).length (wds x).length) (wds x) ∧ Below W.heap.size W w' from fun W => by
          have h := Try.strings_FieldsFunc 14 #[] (enters_of Try.func14 (by kernel_rfl) rfl) blk Y W (by have := YS.out; omega) (pred_blank W)
          rw [show Lib.goFieldsP blk Y = wds x by rw [← YY.out]; rfl] at h
          refine h.mono fun e w' ⟨A, h1, h2, h3, h4⟩ => ⟨A, h1, ?_, h4⟩
          unfold Ow
          rw [flat_es]
          exact h3)
        clear hbx
        have hcnt : (wds x = [] ∧ one (pre.length + 1) x = []) ∨ (wds x ≠ [] ∧ ∃ hp : 0 < Y.size, ∃ c : UInt8, Y[0]'hp = c ∧ ((c = 42 ∧ one (pre.length + 1) x = []) ∨ (c ≠ 42 ∧ one (pre.length + 1) x = [⟨pre.length + 1, !blk c.toNat, wds x⟩]))) := by
          by_cases hw : wds x = []
          · exact .inl ⟨hw, by unfold one cnt; rw [hw]; rfl⟩
          · refine .inr ⟨hw, ?_⟩
            cases e : strip x with
            | nil => exact absurd (wds_nil e) hw
            | cons c r =>
              have hY2 : Y = ba (c :: r) := by rw [← YY.out, ← e]; rfl
              have hhd : hd x = c := by unfold hd; rw [e]; rfl
              have hwe : (wds x).isEmpty = false := by
                cases e9 : wds x with
                | nil => exact absurd e9 hw
                | cons a b => rfl
              subst hY2
              refine ⟨by rw [ba_size]; simp, c, rfl, ?_⟩
              by_cases h42 : c = 42
              · exact .inl ⟨h42, by unfold one cnt; rw [hhd, hwe, h42]; rfl⟩
              · exact .inr ⟨h42, by unfold one cnt; rw [hhd, hwe, decide_eq_false h42]; rfl⟩
        have ON := hide hcnt
        clear hcnt
        rcases ON.out with ⟨hw, h1⟩ | ⟨hw, hp, c, hc, (⟨h42, h1⟩ | ⟨h42, h1⟩)⟩
        · have hl : (wds x).length = 0 := by rw [hw]; rfl
          have q3 : decide ((0 : Int) < ((wds x).length : Int)) = false := by rw [hl]; rfl
          have q4 : decide (0 < (wds x).length) = false := by rw [hl]; rfl
          have H1 := hide h1
          clear hw h1
          gi_wp2_with (refine ⟨trivial, ?_⟩; gi_at_call 13; refine (CallsIn.inRound l (callsIn_wide.2 (FF.out _))).mono ?_; rintro e W3 ⟨A, rfl, ow, hb⟩)
          have S3 := S2.out.step hb
          have K3 := K2.out.step BW2.out hb
          refine ⟨K3.1, K3.2, by rw [badAt_snoc BAD.out, BX.out]; rfl, Nat.le_trans WLW.out K3.1.size, v, d, ?_⟩
          rw [good_snoc, Nat.zero_add, H1.out, List.append_nil, List.length_append]
          exact S3
        · have hl : 0 < (wds x).length := List.length_pos_iff.2 hw
          have q3 : decide ((0 : Int) < ((wds x).length : Int)) = true := decide_eq_true (by omega)
          have q4 : decide (0 < (wds x).length) = true := decide_eq_true hl
          have q5 : ((c.toNat : Int) != 42) = false := by rw [h42]; rfl
          have H1 := hide h1
          clear hw h1 h42
          gi_wp2_with (refine ⟨trivial, ?_⟩; gi_at_call 13; refine (CallsIn.inRound l (callsIn_wide.2 (FF.out _))).mono ?_; rintro e W3 ⟨A, rfl, ow, hb⟩)
          have S3 := S2.out.step hb
          have K3 := K2.out.step BW2.out hb
          refine ⟨K3.1, K3.2, by rw [badAt_snoc BAD.out, BX.out]; rfl, Nat.le_trans WLW.out K3.1.size, v, d, ?_⟩
          rw [good_snoc, Nat.zero_add, H1.out, List.append_nil, List.length_append]
          exact S3
        · have hl : 0 < (wds x).length := List.length_pos_iff.2 hw
          have q3 : decide ((0 : Int) < ((wds x).length : Int)) = true := decide_eq_true (by omega)
          have q4 : decide (0 < (wds x).length) = true := decide_eq_true hl
          have q5 : ((c.toNat : Int) != 42) = true := by
            rw [bne_iff_ne]
            intro e
            exact h42 (by
              have e2 : c.toNat = 42 := by omega
              exact UInt8.toNat_inj.1 e2)
          have H1 := hide h1
          clear hw h1 h42
          gi_wp2_with (refine ⟨trivial, ?_⟩; gi_at_call 13; refine (CallsIn.inRound l (callsIn_wide.2 (FF.out _))).mono ?_; rintro e W3 ⟨A, rfl, ow, hb⟩)
          obtain ⟨i0, hi, hz0, hz1, hz2⟩ := info_parts info_line
          have HLEN := hide (show d.length + 1 ≤ 1000000000000 by
            have h1 := congrArg List.length S2.out.2.2.2.2.2.2.1
            rw [List.length_map] at h1
            have h2 := good_len 0 pre
            have := PL.out
            omega)
          have hcnv : IntKind.i32.wrap (c.toNat : Int) = (c.toNat : Int) := by
            rw [IntKind.wrap_i32]
            have := c.toNat_lt
            omega
          obtain ⟨WD, hWD⟩ : ∃ WD, W3.drew = WD := ⟨_, rfl⟩
          have SD := hide (show St w WL.heap.size (pre.length + 1) v d (good 0 pre) WD from by rw [← hWD]; exact (S2.out.step hb).step ((Below.refl W3.heap.size W3).drew))
          have KD := hide (show Kt WL.heap.size w2.heap.size W WD from by rw [← hWD]; exact (K2.out.step BW2.out hb).drew)
          have OD := hide (show Ow 9 es 1 WD WL.heap.size (.slice (some ⟨A, 0, none⟩) (wds x).length (wds x).length) (wds x) from by rw [← hWD]; exact (ow.mono (Nat.le_trans WLW.out K2.out.1.size)).step ((Below.refl W3.heap.size W3).drew))
          have c3 := SD.out.2.2.2.1.cell
          have f3 := SD.out.2.2.2.1.frozen
          have c4 := SD.out.2.2.2.2.1.cell
          have d3 : (WD.alloc (.cells #[.int .i64 ((pre.length : Int) + 1), .bool (!blk c.toNat), .slice (some ⟨A, 0, none⟩) (wds x).length (wds x).length] 31)).cell? ⟨w.heap.size + 1 + 1 + 1, 0, none⟩ = some v := (SD.out.2.2.2.1.alloc _).cell
          have hkk : (((pre.length + 1 : Nat) : Nat) : Int) = (pre.length : Int) + 1 := by simp
          rw [hkk] at c4
          refine region_round (S := fun _ => True) (by kernel_rfl) (fun ⟨_, _, h⟩ => h) (by kernel_rfl) trivial (fun _ => ?_)
          rw [hWD]
          clear hWD ow hb
          refine wpAnyH_take (i := 2) (v := ?_) rfl (by kernel_rfl) (by kernel_rfl) (by kernel_rfl) (fun _ _ _ h => h) (Or.inl ⟨?_, ?_⟩) trivial ?_
          rotate_left
          · rfl
          · (intro w hSw; go_simp; try with_reducible rfl)
          (try simp only [Act.put, List.setIfInBounds_toArray, List.set_cons_zero, List.set_cons_succ])
          refine wpAnyH_take (i := 3) (v := ?_) rfl (by kernel_rfl) (by kernel_rfl) (by kernel_rfl) (fun _ _ _ h => h) (Or.inl ⟨?_, ?_⟩) trivial ?_
          rotate_left
          · rfl
          · (intro w hSw; go_simp; try with_reducible rfl)
          (try simp only [Act.put, List.setIfInBounds_toArray, List.set_cons_zero, List.set_cons_succ])
          refine wpAnyH_take (i := 4) (v := ?_) rfl (by kernel_rfl) (by kernel_rfl) (by kernel_rfl) (fun _ _ _ h => h) (Or.inl ⟨?_, ?_⟩) trivial ?_
          rotate_left
          · rfl
          · (intro w hSw; go_simp; try with_reducible rfl)
          (try simp only [Act.put, List.setIfInBounds_toArray, List.set_cons_zero, List.set_cons_succ])
          refine wpAnyH_take (i := 7) (v := ?_) rfl (by kernel_rfl) (by kernel_rfl) (by kernel_rfl) (fun _ _ _ h => h) (Or.inl ⟨?_, ?_⟩) trivial ?_
          rotate_left
          · rfl
          · (intro w hSw; go_simp; try with_reducible rfl)
          (try simp only [Act.put, List.setIfInBounds_toArray, List.set_cons_zero, List.set_cons_succ])
          refine wpAnyH_with 2 #[true, true, true, true, true, true, true, true, true, true, false, false] (fun a W => a = ⟨#[.string T, undef, .pointer (some ⟨w.heap.size, 0, none⟩), .pointer (some ⟨w.heap.size + 1, 0, none⟩), .pointer (some ⟨w.heap.size + 1 + 1, 0, none⟩), .pointer (some ⟨w.heap.size + 1 + 1 + 1, 0, none⟩), .pointer (some ⟨w.heap.size + 1 + 1 + 1 + 1, 0, none⟩), .string Y, .slice (some ⟨A, 0, none⟩) (wds x).length (wds x).length, .string T, .int .i64 T.size, .bool false, .string T, .string T, .func (.func 15) #[] #[.pointer (some ⟨w2.heap.size, 0, none⟩)], .string (ba x), .int .i64 pre.length, .int .i64 (pre.length + 1), .string (ba x), .string (ba (Lib.trimSuffix x [10])), .string Y, .string Y, .bool false, undef, .string Y, .slice (some ⟨A, 0, none⟩) (wds x).length (wds x).length, .slice (some ⟨A, 0, none⟩) (wds x).length (wds x).length, .int .i64 (wds x).length, .bool true, .bool true, .string Y, .int .u8 c.toNat, .bool true, .bool true, v, .int .i64 ((pre.length : Int) + 1), .string Y, .int .u8 c.toNat, .int .i32 c.toNat, .bool (blk c.toNat), .bool (!blk c.toNat), .slice (some ⟨A, 0, none⟩) (wds x).length (wds x).length, .agg #[.int .i64 ((pre.length : Int) + 1), .bool (!blk c.toNat), .slice (some ⟨A, 0, none⟩) (wds x).length (wds x).length], .slice (some ⟨WD.heap.size, 0, none⟩) 1 1, undef, undef, undef], []⟩ ∧ W = (WD.alloc (.cells #[.int .i64 ((pre.length : Int) + 1), .bool (!blk c.toNat), .slice (some ⟨A, 0, none⟩) (wds x).length (wds x).length] 31))) ?_ (fun Hs1111 => ?_)
          · rintro a W ⟨rfl, rfl⟩
            refine wpAnyH_ready (rs := [10]) (by kernel_rfl) (by simp) ?_
            refine AllReadyH.cons rfl (fun K hK => ?_) ?_
            rotate_left
            · exact AllReadyH.nil
            refine step_pushE rfl (.tmp 34) (.tmp 43) 23 rfl Try.underlying23 hi hz0 hz1 hz2 rfl (by omega) el_len el_one WD WL.heap.size _ d ⟨pre.length + 1, !blk c.toNat, (some ⟨A, 0, none⟩, (wds x).length, (wds x).length), wds x⟩ _ rfl SD.out.2.2.2.2.2.1.1 rfl rfl HLEN.out (by decide) (Nat.le_trans WLW.out KD.out.1.size) ?_
            intro v' w' ho hg
            obtain ⟨b0, b1, b2, b3, b4, L, ee, bl⟩ := SD.out
            have nb : ∀ j, j < WL.heap.size → some j ≠ v.ownBlock := fun j hj e => by have := (L.1.lt e.symm).1; omega
            have hsm : w.heap.size + 5 < WL.heap.size := by have := H5.out; have := HBW.out; omega
            have LG := L.push (x := ⟨pre.length + 1, !blk c.toNat, (some ⟨A, 0, none⟩, (wds x).length, (wds x).length), wds x⟩) ho hg.1 OD.out
            have a0 := b0.kept hg.1 (nb _ (by omega))
            have a1 := b1.kept hg.1 (nb _ (by omega))
            have a2 := b2.kept hg.1 (nb _ (by omega))
            have a3 := b3.kept hg.1 (nb _ (by omega))
            have a4 := b4.kept hg.1 (nb _ (by omega))
            have kt := KD.out.grown BW2.out hg.1 (fun r e => ⟨fun e2 => by subst e2; exact nb _ HBW.out e.symm, .inr (fun o ho => by
              rcases L.1.form with ⟨rfl, _⟩ | ⟨g, cap, cur, rfl, hB, hlt, hh, _⟩
              · cases e
              · simp only [Value.ownBlock] at e
                injection e with e
                subst e
                rw [hh] at ho
                injection ho with ho
                subst ho
                rfl)⟩)
            have bw := below_own bl (L.1.mono (B' := w.heap.size) (by omega)) hg.1 bl.size
            have hv' : ∃ g cap, v' = .slice (some ⟨g, 0, none⟩) (d.length + 1) cap := by
              rcases ho.form with ⟨_, e⟩ | ⟨g, cap, cur, e, _⟩
              · simp at e
              · exact ⟨g, cap, by rw [e]; simp⟩
            obtain ⟨g, cap, rfl⟩ := hv'
            have e3 := a3.cell
            have g3 := a3.frozen
            have ALL := hide (And.intro LG (And.intro a0 (And.intro a1 (And.intro a2 (And.intro a3 (And.intro a4 (And.intro kt (And.intro bw ee))))))))
            clear LG a0 a1 a2 a3 a4 kt bw ee ho hg b0 b1 b2 b3 b4 L bl nb c3 f3 c4 d3
            refine hK.out _ _ trivial (fun _ => ?_)
            clear hK K
            (try simp only [Act.put, List.setIfInBounds_toArray, List.set_cons_zero, List.set_cons_succ])
            refine wpAnyH_ready (rs := [11]) (by kernel_rfl) (by simp) ?_
            refine AllReadyH.cons rfl (fun K hK => ?_) ?_
            rotate_left
            · exact AllReadyH.nil
            go_simp
            refine hK.out _ _ trivial (fun _ => ?_)
            clear hK K
            (try simp only [Act.put, List.setIfInBounds_toArray, List.set_cons_zero, List.set_cons_succ])
            refine wpAnyH_done (by kernel_rfl) ?_ _
            obtain ⟨LG, a0, a1, a2, a3, a4, kt, bw, ee⟩ := ALL.out
            have kf := kt.set BW2.out H5.out HBW.out (j := w.heap.size + 1 + 1 + 1) (by omega) (.slice (some ⟨g, 0, none⟩) (d.length + 1) cap)
            refine ⟨kf.1, kf.2, by rw [badAt_snoc BAD.out, BX.out]; rfl, Nat.le_trans WLW.out kf.1.size, .slice (some ⟨g, 0, none⟩) (d.length + 1) cap, d ++ [⟨pre.length + 1, !blk c.toNat, (some ⟨A, 0, none⟩, (wds x).length, (wds x).length), wds x⟩], ?_⟩
            refine ⟨a0.other (by omega) _, a1.other (by omega) _, a2.other (by omega) _, a3.set _, ?_, LG.kept (only_set (p := ⟨w.heap.size + 1 + 1 + 1, 0, none⟩) (only_refl w' _) rfl _) (fun r e => .inl (by
              have e : some (w.heap.size + 1 + 1 + 1) = some r := e
              injection e with e
              omega)), ?_, bw.setCell (p := ⟨w.heap.size + 1 + 1 + 1, 0, none⟩) (by show w.heap.size ≤ w.heap.size + 1 + 1 + 1; omega) _⟩
            · rw [show (((pre ++ [x]).length : Nat) : Int) = ((pre.length + 1 : Nat) : Int) by simp]
              exact a4.other (by omega) _
            · rw [good_snoc, Nat.zero_add, H1.out, List.map_append, ee]
              rfl
          refine wpAnyH_with 3 #[true, true, true, true, true, true, true, true, true, false, false, false] (fun a W => a = ⟨#[.string T, undef, .pointer (some ⟨w.heap.size, 0, none⟩), .pointer (some ⟨w.heap.size + 1, 0, none⟩), .pointer (some ⟨w.heap.size + 1 + 1, 0, none⟩), .pointer (some ⟨w.heap.size + 1 + 1 + 1, 0, none⟩), .pointer (some ⟨w.heap.size + 1 + 1 + 1 + 1, 0, none⟩), .string Y, .slice (some ⟨A, 0, none⟩) (wds x).length (wds x).length, .string T, .int .i64 T.size, .bool false, .string T, .string T, .func (.func 15) #[] #[.pointer (some ⟨w2.heap.size, 0, none⟩)], .string (ba x), .int .i64 pre.length, .int .i64 (pre.length + 1), .string (ba x), .string (ba (Lib.trimSuffix x [10])), .string Y, .string Y, .bool false, undef, .string Y, .slice (some ⟨A, 0, none⟩) (wds x).length (wds x).length, .slice (some ⟨A, 0, none⟩) (wds x).length (wds x).length, .int .i64 (wds x).length, .bool true, .bool true, .string Y, .int .u8 c.toNat, .bool true, .bool true, v, .int .i64 ((pre.length : Int) + 1), .string Y, .int .u8 c.toNat, .int .i32 c.toNat, .bool (blk c.toNat), .bool (!blk c.toNat), .slice (some ⟨A, 0, none⟩) (wds x).length (wds x).length, .agg #[.int .i64 ((pre.length : Int) + 1), .bool (!blk c.toNat), .slice (some ⟨A, 0, none⟩) (wds x).length (wds x).length], undef, undef, undef, undef], []⟩ ∧ W = WD) ?_ (fun Hs1110 => ?_)
          · rintro a W ⟨rfl, rfl⟩
            refine wpAnyH_ready (rs := [9]) (by kernel_rfl) (by simp) ?_
            refine AllReadyH.cons rfl (fun K hK => ?_) ?_
            · go_simp
              refine hK.out _ _ trivial (fun _ => ?_)
              clear hK K
              (try simp only [Act.put, List.setIfInBounds_toArray, List.set_cons_zero, List.set_cons_succ])
              exact Hs1111.out _ _ ⟨rfl, rfl⟩
            exact AllReadyH.nil
          refine wpAnyH_with 6 #[true, true, true, true, true, false, false, true, false, false, false, false] (fun a W => a = ⟨#[.string T, undef, .pointer (some ⟨w.heap.size, 0, none⟩), .pointer (some ⟨w.heap.size + 1, 0, none⟩), .pointer (some ⟨w.heap.size + 1 + 1, 0, none⟩), .pointer (some ⟨w.heap.size + 1 + 1 + 1, 0, none⟩), .pointer (some ⟨w.heap.size + 1 + 1 + 1 + 1, 0, none⟩), .string Y, .slice (some ⟨A, 0, none⟩) (wds x).length (wds x).length, .string T, .int .i64 T.size, .bool false, .string T, .string T, .func (.func 15) #[] #[.pointer (some ⟨w2.heap.size, 0, none⟩)], .string (ba x), .int .i64 pre.length, .int .i64 (pre.length + 1), .string (ba x), .string (ba (Lib.trimSuffix x [10])), .string Y, .string Y, .bool false, undef, .string Y, .slice (some ⟨A, 0, none⟩) (wds x).length (wds x).length, .slice (some ⟨A, 0, none⟩) (wds x).length (wds x).length, .int .i64 (wds x).length, .bool true, .bool true, .string Y, .int .u8 c.toNat, .bool true, .bool true, v, .int .i64 ((pre.length : Int) + 1), .string Y, .int .u8 c.toNat, .int .i32 c.toNat, undef, undef, .slice (some ⟨A, 0, none⟩) (wds x).length (wds x).length, undef, undef, undef, undef, undef], []⟩ ∧ W = WD) ?_ (fun Hs1100 => ?_)
          · rintro a W ⟨rfl, rfl⟩
            refine wpAnyH_ready (rs := [5]) (by kernel_rfl) (by simp) ?_
            refine AllReadyH.cons rfl (fun K hK => ?_) ?_
            · go_simp
              refine (blank_f c.toNat _).mono ?_
              rintro e w9 ⟨rfl, rfl⟩
              try dsimp only
              refine hK.out _ _ trivial (fun _ => ?_)
              clear hK K
              (try simp only [Act.put, List.setIfInBounds_toArray, List.set_cons_zero, List.set_cons_succ])
              refine wpAnyH_take (i := 6) (v := ?_) rfl (by kernel_rfl) (by kernel_rfl) (by kernel_rfl) (fun _ _ _ h => h) (Or.inl ⟨?_, ?_⟩) trivial ?_
              rotate_left
              · rfl
              · (intro w hSw; go_simp; try with_reducible rfl)
              (try simp only [Act.put, List.setIfInBounds_toArray, List.set_cons_zero, List.set_cons_succ])
              refine wpAnyH_take (i := 8) (v := ?_) rfl (by kernel_rfl) (by kernel_rfl) (by kernel_rfl) (fun _ _ _ h => h) (Or.inl ⟨?_, ?_⟩) trivial ?_
              rotate_left
              · rfl
              · (intro w hSw; go_simp; try with_reducible rfl)
              (try simp only [Act.put, List.setIfInBounds_toArray, List.set_cons_zero, List.set_cons_succ])
              exact Hs1110.out _ _ ⟨rfl, rfl⟩
            exact AllReadyH.nil
          refine wpAnyH_with 5 #[true, false, true, true, true, true, true, true, false, false, false, false] (fun a W => a = ⟨#[.string T, undef, .pointer (some ⟨w.heap.size, 0, none⟩), .pointer (some ⟨w.heap.size + 1, 0, none⟩), .pointer (some ⟨w.heap.size + 1 + 1, 0, none⟩), .pointer (some ⟨w.heap.size + 1 + 1 + 1, 0, none⟩), .pointer (some ⟨w.heap.size + 1 + 1 + 1 + 1, 0, none⟩), .string Y, .slice (some ⟨A, 0, none⟩) (wds x).length (wds x).length, .string T, .int .i64 T.size, .bool false, .string T, .string T, .func (.func 15) #[] #[.pointer (some ⟨w2.heap.size, 0, none⟩)], .string (ba x), .int .i64 pre.length, .int .i64 (pre.length + 1), .string (ba x), .string (ba (Lib.trimSuffix x [10])), .string Y, .string Y, .bool false, undef, .string Y, .slice (some ⟨A, 0, none⟩) (wds x).length (wds x).length, .slice (some ⟨A, 0, none⟩) (wds x).length (wds x).length, .int .i64 (wds x).length, .bool true, .bool true, .string Y, .int .u8 c.toNat, .bool true, .bool true, v, undef, .string Y, .int .u8 c.toNat, .int .i32 c.toNat, .bool (blk c.toNat), .bool (!blk c.toNat), .slice (some ⟨A, 0, none⟩) (wds x).length (wds x).length, undef, undef, undef, undef, undef], []⟩ ∧ W = WD) ?_ (fun Hs1010 => ?_)
          · rintro a W ⟨rfl, rfl⟩
            refine wpAnyH_ready (rs := [1]) (by kernel_rfl) (by simp) ?_
            refine AllReadyH.cons rfl (fun K hK => ?_) ?_
            · go_simp
              refine hK.out _ _ trivial (fun _ => ?_)
              clear hK K
              (try simp only [Act.put, List.setIfInBounds_toArray, List.set_cons_zero, List.set_cons_succ])
              refine wpAnyH_take (i := 8) (v := ?_) rfl (by kernel_rfl) (by kernel_rfl) (by kernel_rfl) (fun _ _ _ h => h) (Or.inl ⟨?_, ?_⟩) trivial ?_
              rotate_left
              · rfl
              · (intro w hSw; go_simp; try with_reducible rfl)
              (try simp only [Act.put, List.setIfInBounds_toArray, List.set_cons_zero, List.set_cons_succ])
              exact Hs1110.out _ _ ⟨rfl, rfl⟩
            exact AllReadyH.nil
          refine wpAnyH_with 7 #[true, false, true, true, true, false, false, true, false, false, false, false] (fun a W => a = ⟨#[.string T, undef, .pointer (some ⟨w.heap.size, 0, none⟩), .pointer (some ⟨w.heap.size + 1, 0, none⟩), .pointer (some ⟨w.heap.size + 1 + 1, 0, none⟩), .pointer (some ⟨w.heap.size + 1 + 1 + 1, 0, none⟩), .pointer (some ⟨w.heap.size + 1 + 1 + 1 + 1, 0, none⟩), .string Y, .slice (some ⟨A, 0, none⟩) (wds x).length (wds x).length, .string T, .int .i64 T.size, .bool false, .string T, .string T, .func (.func 15) #[] #[.pointer (some ⟨w2.heap.size, 0, none⟩)], .string (ba x), .int .i64 pre.length, .int .i64 (pre.length + 1), .string (ba x), .string (ba (Lib.trimSuffix x [10])), .string Y, .string Y, .bool false, undef, .string Y, .slice (some ⟨A, 0, none⟩) (wds x).length (wds x).length, .slice (some ⟨A, 0, none⟩) (wds x).length (wds x).length, .int .i64 (wds x).length, .bool true, .bool true, .string Y, .int .u8 c.toNat, .bool true, .bool true, v, undef, .string Y, .int .u8 c.toNat, .int .i32 c.toNat, undef, undef, .slice (some ⟨A, 0, none⟩) (wds x).length (wds x).length, undef, undef, undef, undef, undef], []⟩ ∧ W = WD) ?_ (fun Hs1000 => ?_)
          · rintro a W ⟨rfl, rfl⟩
            refine wpAnyH_ready (rs := [1, 5]) (by kernel_rfl) (by simp) ?_
            refine AllReadyH.cons rfl (fun K hK => ?_) ?_
            · go_simp
              refine hK.out _ _ trivial (fun _ => ?_)
              clear hK K
              (try simp only [Act.put, List.setIfInBounds_toArray, List.set_cons_zero, List.set_cons_succ])
              exact Hs1100.out _ _ ⟨rfl, rfl⟩
            refine AllReadyH.cons rfl (fun K hK => ?_) ?_
            · go_simp
              refine (blank_f c.toNat _).mono ?_
              rintro e w9 ⟨rfl, rfl⟩
              try dsimp only
              refine hK.out _ _ trivial (fun _ => ?_)
              clear hK K
              (try simp only [Act.put, List.setIfInBounds_toArray, List.set_cons_zero, List.set_cons_succ])
              refine wpAnyH_take (i := 6) (v := ?_) rfl (by kernel_rfl) (by kernel_rfl) (by kernel_rfl) (fun _ _ _ h => h) (Or.inl ⟨?_, ?_⟩) trivial ?_
              rotate_left
              · rfl
              · (intro w hSw; go_simp; try with_reducible rfl)
              (try simp only [Act.put, List.setIfInBounds_toArray, List.set_cons_zero, List.set_cons_succ])
              exact Hs1010.out _ _ ⟨rfl, rfl⟩
            exact AllReadyH.nil
          refine wpAnyH_with 3 #[false, true, true, true, true, true, true, true, true, true, false, false] (fun a W => a = ⟨#[.string T, undef, .pointer (some ⟨w.heap.size, 0, none⟩), .pointer (some ⟨w.heap.size + 1, 0, none⟩), .pointer (some ⟨w.heap.size + 1 + 1, 0, none⟩), .pointer (some ⟨w.heap.size + 1 + 1 + 1, 0, none⟩), .pointer (some ⟨w.heap.size + 1 + 1 + 1 + 1, 0, none⟩), .string Y, .slice (some ⟨A, 0, none⟩) (wds x).length (wds x).length, .string T, .int .i64 T.size, .bool false, .string T, .string T, .func (.func 15) #[] #[.pointer (some ⟨w2.heap.size, 0, none⟩)], .string (ba x), .int .i64 pre.length, .int .i64 (pre.length + 1), .string (ba x), .string (ba (Lib.trimSuffix x [10])), .string Y, .string Y, .bool false, undef, .string Y, .slice (some ⟨A, 0, none⟩) (wds x).length (wds x).length, .slice (some ⟨A, 0, none⟩) (wds x).length (wds x).length, .int .i64 (wds x).length, .bool true, .bool true, .string Y, .int .u8 c.toNat, .bool true, .bool true, undef, .int .i64 ((pre.length : Int) + 1), .string Y, .int .u8 c.toNat, .int .i32 c.toNat, .bool (blk c.toNat), .bool (!blk c.toNat), .slice (some ⟨A, 0, none⟩) (wds x).length (wds x).length, .agg #[.int .i64 ((pre.length : Int) + 1), .bool (!blk c.toNat), .slice (some ⟨A, 0, none⟩) (wds x).length (wds x).length], .slice (some ⟨WD.heap.size, 0, none⟩) 1 1, undef, undef, undef], []⟩ ∧ W = (WD.alloc (.cells #[.int .i64 ((pre.length : Int) + 1), .bool (!blk c.toNat), .slice (some ⟨A, 0, none⟩) (wds x).length (wds x).length] 31))) ?_ (fun Hs0111 => ?_)
          · rintro a W ⟨rfl, rfl⟩
            refine wpAnyH_ready (rs := [0]) (by kernel_rfl) (by simp) ?_
            refine AllReadyH.cons rfl (fun K hK => ?_) ?_
            · go_simp
              refine hK.out _ _ trivial (fun _ => ?_)
              clear hK K
              (try simp only [Act.put, List.setIfInBounds_toArray, List.set_cons_zero, List.set_cons_succ])
              exact Hs1111.out _ _ ⟨rfl, rfl⟩
            exact AllReadyH.nil
          refine wpAnyH_with 4 #[false, true, true, true, true, true, true, true, true, false, false, false] (fun a W => a = ⟨#[.string T, undef, .pointer (some ⟨w.heap.size, 0, none⟩), .pointer (some ⟨w.heap.size + 1, 0, none⟩), .pointer (some ⟨w.heap.size + 1 + 1, 0, none⟩), .pointer (some ⟨w.heap.size + 1 + 1 + 1, 0, none⟩), .pointer (some ⟨w.heap.size + 1 + 1 + 1 + 1, 0, none⟩), .string Y, .slice (some ⟨A, 0, none⟩) (wds x).length (wds x).length, .string T, .int .i64 T.size, .bool false, .string T, .string T, .func (.func 15) #[] #[.pointer (some ⟨w2.heap.size, 0, none⟩)], .string (ba x), .int .i64 pre.length, .int .i64 (pre.length + 1), .string (ba x), .string (ba (Lib.trimSuffix x [10])), .string Y, .string Y, .bool false, undef, .string Y, .slice (some ⟨A, 0, none⟩) (wds x).length (wds x).length, .slice (some ⟨A, 0, none⟩) (wds x).length (wds x).length, .int .i64 (wds x).length, .bool true, .bool true, .string Y, .int .u8 c.toNat, .bool true, .bool true, undef, .int .i64 ((pre.length : Int) + 1), .string Y, .int .u8 c.toNat, .int .i32 c.toNat, .bool (blk c.toNat), .bool (!blk c.toNat), .slice (some ⟨A, 0, none⟩) (wds x).length (wds x).length, .agg #[.int .i64 ((pre.length : Int) + 1), .bool (!blk c.toNat), .slice (some ⟨A, 0, none⟩) (wds x).length (wds x).length], undef, undef, undef, undef], []⟩ ∧ W = WD) ?_ (fun Hs0110 => ?_)
          · rintro a W ⟨rfl, rfl⟩
            refine wpAnyH_ready (rs := [0, 9]) (by kernel_rfl) (by simp) ?_
            refine AllReadyH.cons rfl (fun K hK => ?_) ?_
            · go_simp
              refine hK.out _ _ trivial (fun _ => ?_)
              clear hK K
              (try simp only [Act.put, List.setIfInBounds_toArray, List.set_cons_zero, List.set_cons_succ])
              exact Hs1110.out _ _ ⟨rfl, rfl⟩
            refine AllReadyH.cons rfl (fun K hK => ?_) ?_
            · go_simp
              refine hK.out _ _ trivial (fun _ => ?_)
              clear hK K
              (try simp only [Act.put, List.setIfInBounds_toArray, List.set_cons_zero, List.set_cons_succ])
              exact Hs0111.out _ _ ⟨rfl, rfl⟩
            exact AllReadyH.nil
          refine wpAnyH_with 7 #[false, true, true, true, true, false, false, true, false, false, false, false] (fun a W => a = ⟨#[.string T, undef, .pointer (some ⟨w.heap.size, 0, none⟩), .pointer (some ⟨w.heap.size + 1, 0, none⟩), .pointer (some ⟨w.heap.size + 1 + 1, 0, none⟩), .pointer (some ⟨w.heap.size + 1 + 1 + 1, 0, none⟩), .pointer (some ⟨w.heap.size + 1 + 1 + 1 + 1, 0, none⟩), .string Y, .slice (some ⟨A, 0, none⟩) (wds x).length (wds x).length, .string T, .int .i64 T.size, .bool false, .string T, .string T, .func (.func 15) #[] #[.pointer (some ⟨w2.heap.size, 0, none⟩)], .string (ba x), .int .i64 pre.length, .int .i64 (pre.length + 1), .string (ba x), .string (ba (Lib.trimSuffix x [10])), .string Y, .string Y, .bool false, undef, .string Y, .slice (some ⟨A, 0, none⟩) (wds x).length (wds x).length, .slice (some ⟨A, 0, none⟩) (wds x).length (wds x).length, .int .i64 (wds x).length, .bool true, .bool true, .string Y, .int .u8 c.toNat, .bool true, .bool true, undef, .int .i64 ((pre.length : Int) + 1), .string Y, .int .u8 c.toNat, .int .i32 c.toNat, undef, undef, .slice (some ⟨A, 0, none⟩) (wds x).length (wds x).length, undef, undef, undef, undef, undef], []⟩ ∧ W = WD) ?_ (fun Hs0100 => ?_)
          · rintro a W ⟨rfl, rfl⟩
            refine wpAnyH_ready (rs := [0, 5]) (by kernel_rfl) (by simp) ?_
            refine AllReadyH.cons rfl (fun K hK => ?_) ?_
            · go_simp
              refine hK.out _ _ trivial (fun _ => ?_)
              clear hK K
              (try simp only [Act.put, List.setIfInBounds_toArray, List.set_cons_zero, List.set_cons_succ])
              exact Hs1100.out _ _ ⟨rfl, rfl⟩
            refine AllReadyH.cons rfl (fun K hK => ?_) ?_
            · go_simp
              refine (blank_f c.toNat _).mono ?_
              rintro e w9 ⟨rfl, rfl⟩
              try dsimp only
              refine hK.out _ _ trivial (fun _ => ?_)
              clear hK K
              (try simp only [Act.put, List.setIfInBounds_toArray, List.set_cons_zero, List.set_cons_succ])
              refine wpAnyH_take (i := 6) (v := ?_) rfl (by kernel_rfl) (by kernel_rfl) (by kernel_rfl) (fun _ _ _ h => h) (Or.inl ⟨?_, ?_⟩) trivial ?_
              rotate_left
              · rfl
              · (intro w hSw; go_simp; try with_reducible rfl)
              (try simp only [Act.put, List.setIfInBounds_toArray, List.set_cons_zero, List.set_cons_succ])
              refine wpAnyH_take (i := 8) (v := ?_) rfl (by kernel_rfl) (by kernel_rfl) (by kernel_rfl) (fun _ _ _ h => h) (Or.inl ⟨?_, ?_⟩) trivial ?_
              rotate_left
              · rfl
              · (intro w hSw; go_simp; try with_reducible rfl)
              (try simp only [Act.put, List.setIfInBounds_toArray, List.set_cons_zero, List.set_cons_succ])
              exact Hs0110.out _ _ ⟨rfl, rfl⟩
            exact AllReadyH.nil
          refine wpAnyH_with 6 #[false, false, true, true, true, true, true, true, false, false, false, false] (fun a W => a = ⟨#[.string T, undef, .pointer (some ⟨w.heap.size, 0, none⟩), .pointer (some ⟨w.heap.size + 1, 0, none⟩), .pointer (some ⟨w.heap.size + 1 + 1, 0, none⟩), .pointer (some ⟨w.heap.size + 1 + 1 + 1, 0, none⟩), .pointer (some ⟨w.heap.size + 1 + 1 + 1 + 1, 0, none⟩), .string Y, .slice (some ⟨A, 0, none⟩) (wds x).length (wds x).length, .string T, .int .i64 T.size, .bool false, .string T, .string T, .func (.func 15) #[] #[.pointer (some ⟨w2.heap.size, 0, none⟩)], .string (ba x), .int .i64 pre.length, .int .i64 (pre.length + 1), .string (ba x), .string (ba (Lib.trimSuffix x [10])), .string Y, .string Y, .bool false, undef, .string Y, .slice (some ⟨A, 0, none⟩) (wds x).length (wds x).length, .slice (some ⟨A, 0, none⟩) (wds x).length (wds x).length, .int .i64 (wds x).length, .bool true, .bool true, .string Y, .int .u8 c.toNat, .bool true, .bool true, undef, undef, .string Y, .int .u8 c.toNat, .int .i32 c.toNat, .bool (blk c.toNat), .bool (!blk c.toNat), .slice (some ⟨A, 0, none⟩) (wds x).length (wds x).length, undef, undef, undef, undef, undef], []⟩ ∧ W = WD) ?_ (fun Hs0010 => ?_)
          · rintro a W ⟨rfl, rfl⟩
            refine wpAnyH_ready (rs := [0, 1]) (by kernel_rfl) (by simp) ?_
            refine AllReadyH.cons rfl (fun K hK => ?_) ?_
            · go_simp
              refine hK.out _ _ trivial (fun _ => ?_)
              clear hK K
              (try simp only [Act.put, List.setIfInBounds_toArray, List.set_cons_zero, List.set_cons_succ])
              exact Hs1010.out _ _ ⟨rfl, rfl⟩
            refine AllReadyH.cons rfl (fun K hK => ?_) ?_
            · go_simp
              refine hK.out _ _ trivial (fun _ => ?_)
              clear hK K
              (try simp only [Act.put, List.setIfInBounds_toArray, List.set_cons_zero, List.set_cons_succ])
              refine wpAnyH_take (i := 8) (v := ?_) rfl (by kernel_rfl) (by kernel_rfl) (by kernel_rfl) (fun _ _ _ h => h) (Or.inl ⟨?_, ?_⟩) trivial ?_
              rotate_left
              · rfl
              · (intro w hSw; go_simp; try with_reducible rfl)
              (try simp only [Act.put, List.setIfInBounds_toArray, List.set_cons_zero, List.set_cons_succ])
              exact Hs0110.out _ _ ⟨rfl, rfl⟩
            exact AllReadyH.nil
          refine wpAnyH_with 8 #[false, false, true, true, true, false, false, true, false, false, false, false] (fun a W => a = ⟨#[.string T, undef, .pointer (some ⟨w.heap.size, 0, none⟩), .pointer (some ⟨w.heap.size + 1, 0, none⟩), .pointer (some ⟨w.heap.size + 1 + 1, 0, none⟩), .pointer (some ⟨w.heap.size + 1 + 1 + 1, 0, none⟩), .pointer (some ⟨w.heap.size + 1 + 1 + 1 + 1, 0, none⟩), .string Y, .slice (some ⟨A, 0, none⟩) (wds x).length (wds x).length, .string T, .int .i64 T.size, .bool false, .string T, .string T, .func (.func 15) #[] #[.pointer (some ⟨w2.heap.size, 0, none⟩)], .string (ba x), .int .i64 pre.length, .int .i64 (pre.length + 1), .string (ba x), .string (ba (Lib.trimSuffix x [10])), .string Y, .string Y, .bool false, undef, .string Y, .slice (some ⟨A, 0, none⟩) (wds x).length (wds x).length, .slice (some ⟨A, 0, none⟩) (wds x).length (wds x).length, .int .i64 (wds x).length, .bool true, .bool true, .string Y, .int .u8 c.toNat, .bool true, .bool true, undef, undef, .string Y, .int .u8 c.toNat, .int .i32 c.toNat, undef, undef, .slice (some ⟨A, 0, none⟩) (wds x).length (wds x).length, undef, undef, undef, undef, undef], []⟩ ∧ W = WD) ?_ (fun Hs => Hs.out _ _ ⟨rfl, rfl⟩)
          rintro a W ⟨rfl, rfl⟩
          refine wpAnyH_ready (rs := [0, 1, 5]) (by kernel_rfl) (by simp) ?_
          refine AllReadyH.cons rfl (fun K hK => ?_) ?_
          · go_simp
            refine hK.out _ _ trivial (fun _ => ?_)
            clear hK K
            (try simp only [Act.put, List.setIfInBounds_toArray, List.set_cons_zero, List.set_cons_succ])
            exact Hs1000.out _ _ ⟨rfl, rfl⟩
          refine AllReadyH.cons rfl (fun K hK => ?_) ?_
          · go_simp
            refine hK.out _ _ trivial (fun _ => ?_)
            clear hK K
            (try simp only [Act.put, List.setIfInBounds_toArray, List.set_cons_zero, List.set_cons_succ])
            exact Hs0100.out _ _ ⟨rfl, rfl⟩
          refine AllReadyH.cons rfl (fun K hK => ?_) ?_
          · go_simp
            refine (blank_f c.toNat _).mono ?_
            rintro e w9 ⟨rfl, rfl⟩
            try dsimp only
            refine hK.out _ _ trivial (fun _ => ?_)
            clear hK K
            (try simp only [Act.put, List.setIfInBounds_toArray, List.set_cons_zero, List.set_cons_succ])
            refine wpAnyH_take (i := 6) (v := ?_) rfl (by kernel_rfl) (by kernel_rfl) (by kernel_rfl) (fun _ _ _ h => h) (Or.inl ⟨?_, ?_⟩) trivial ?_
            rotate_left
            · rfl
            · (intro w hSw; go_simp; try with_reducible rfl)
            (try simp only [Act.put, List.setIfInBounds_toArray, List.set_cons_zero, List.set_cons_succ])
            exact Hs0010.out _ _ ⟨rfl, rfl⟩
          exact AllReadyH.nil
    case done =>
      rintro D xs W hD rfl ⟨hbad, -, v, d, hS⟩ hK
      have hv : ∃ A n c, v = .slice A n c := by
        rcases hS.2.2.2.2.2.1.1.form with ⟨rfl, _⟩ | ⟨g, cap, cur, rfl, _⟩
        · exact ⟨_, _, _, rfl⟩
        · exact ⟨_, _, _, rfl⟩
      obtain ⟨A, nn, cc, rfl⟩ := hv
      obtain ⟨b0, b1, b2, b3, b4, L, ee, bl⟩ := hS
      have SX := hide (And.intro b0 (And.intro b1 (And.intro b2 (And.intro L (And.intro ee bl)))))
      have c0 := b0.cell
      have f0 := b0.frozen
      have c1 := b1.cell
      have f1 := b1.frozen
      have c2 := b2.cell
      have f2 := b2.frozen
      have c3 := b3.cell
      have c4 := b4.cell
      have BAD := hide hbad
      have HK := hide hK
      have HD := hide hD
      clear b0 b1 b2 b3 b4 L ee bl hbad hK hD
      gi_wp2
      gi_region
      all_goals gi_wp2
      all_goals
        obtain ⟨b0, b1, b2, L, ee, bl⟩ := SX.out
        have hsm : w.heap.size + 5 < WL.heap.size := by have := H5.out; have := HBW.out; omega
        obtain ⟨W5, hW5⟩ : ∃ W5, ((W.setCell ⟨w.heap.size, 0, none⟩ (.slice A nn cc)).setCell ⟨w.heap.size + 1, 0, none⟩ (.int .i64 0)).setCell ⟨w.heap.size + 1 + 1, 0, none⟩ (.int .i64 ((lnsOf s).length : Int)) = W5 := ⟨_, rfl⟩
        have a0 := ((b0.set (.slice A nn cc)).other (show w.heap.size ≠ w.heap.size + 1 by omega) (.int .i64 0)).other (show w.heap.size ≠ w.heap.size + 1 + 1 by omega) (.int .i64 ((lnsOf s).length : Int))
        have a1 := ((b1.other (show w.heap.size + 1 ≠ w.heap.size by omega) (.slice A nn cc)).set (.int .i64 0)).other (show w.heap.size + 1 ≠ w.heap.size + 1 + 1 by omega) (.int .i64 ((lnsOf s).length : Int))
        have a2 := ((b2.other (show w.heap.size + 1 + 1 ≠ w.heap.size by omega) (.slice A nn cc)).other (show w.heap.size + 1 + 1 ≠ w.heap.size + 1 by omega) (.int .i64 0)).set (.int .i64 ((lnsOf s).length : Int))
        have hK5 : W5.heap[D]? = some (.deferred (some [])) := by
          have := HD.out
          rw [← hW5]
          exact ((Below.heap_setCell _ _ _ _ (show D ≠ w.heap.size + 1 + 1 by omega)).trans ((Below.heap_setCell _ _ _ _ (show D ≠ w.heap.size + 1 by omega)).trans (Below.heap_setCell _ _ _ _ (show D ≠ w.heap.size by omega)))).trans HK.out
        have hg5 : W.grownBy W5 none ∨ True := .inr trivial
        have LL : Lg W5 WL.heap.size (.slice A nn cc) d := by
          rw [← hW5]
          have one : ∀ (X : World) (j : Nat) u, j < WL.heap.size → Lg X WL.heap.size (.slice A nn cc) d → Lg (X.setCell ⟨j, 0, none⟩ u) WL.heap.size (.slice A nn cc) d := fun X j u hj h => h.kept (only_set (p := ⟨j, 0, none⟩) (only_refl X _) rfl _) (fun r e => .inl (by
            have e : some j = some r := e
            injection e with e
            omega))
          exact one _ _ _ (by omega) (one _ _ _ (by omega) (one _ _ _ (by omega) L))
        have bl5 : Below w.heap.size w W5 := by
          rw [← hW5]
          exact ((bl.setCell (p := ⟨w.heap.size, 0, none⟩) (Nat.le_refl _) _).setCell (p := ⟨w.heap.size + 1, 0, none⟩) (by show w.heap.size ≤ w.heap.size + 1; omega) _).setCell (p := ⟨w.heap.size + 1 + 1, 0, none⟩) (by show w.heap.size ≤ w.heap.size + 1 + 1; omega) _
        rw [hW5] at a0 a1 a2 ⊢
        clear hW5
        have hK6 : W5.drew.heap[D]? = some (.deferred (some [])) := hK5
        refine ⟨by simp, .inl ⟨_, _, rfl, run_takeDeferred hK6, ?_⟩⟩
        have hgp : W5.drew.grownBy (W5.drew.putObj D (.deferred none)) (some D) := grownBy_putObj' _ D (.deferred none)
        have hne : ∀ j, j < WL.heap.size → some j ≠ some D := fun j hj e => by injection e with e; have := HD.out; omega
        have z0 := (Boxed.kept (W := W5.drew) a0 hgp (hne _ (by omega))).cell
        have z1 := (Boxed.kept (W := W5.drew) a1 hgp (hne _ (by omega))).cell
        have z2 := (Boxed.kept (W := W5.drew) a2 hgp (hne _ (by omega))).cell
        refine ⟨.tuple #[.slice A nn cc, .int .i64 0, .int .i64 ((lnsOf s).length : Int)], ?_, ?_, .inr ⟨by have := HB.out; omega, .inr ⟨BAD.out, _, d, rfl, ?_, ee⟩⟩⟩
        · simp [results, Try.f6, go_sem, z0, z1, z2]
        · exact (bl5.drew).grown hgp (bl5.drew).size (fun r e => by injection e with e; have := HD.out; omega)
        · have h6 : Lg W5.drew WL.heap.size (.slice A nn cc) d := LL.step ((Below.refl W5.heap.size W5).drew)
          exact (h6.kept hgp (fun r e => .inr (by injection e with e; subst e; exact ⟨_, hK6, fun cs T fz e => by cases e⟩))).mono (by omega)
    case stop =>
      rintro D c pre W hD hp ⟨rfl, hbad, b0, b1, b2, bl⟩ hK
      have ALL := hide (And.intro hD (And.intro hp (And.intro hbad (And.intro b0 (And.intro b1 (And.intro b2 (And.intro bl hK)))))))
      clear hD hp hbad b0 b1 b2 bl hK
      gi_wp2
      obtain ⟨hD, ⟨r, hr⟩, hbad, b0, b1, b2, bl, hK⟩ := ALL.out
      have hsm : w.heap.size + 5 < WL.heap.size := by have := H5.out; have := HBW.out; omega
      refine ⟨by simp, .inl ⟨_, _, rfl, run_takeDeferred hK, ?_⟩⟩
      have hgp : W.grownBy (W.putObj D (.deferred none)) (some D) := grownBy_putObj' _ D (.deferred none)
      have hne : ∀ j, j < WL.heap.size → some j ≠ some D := fun j hj e => by injection e with e; omega
      have z0 := (b0.kept hgp (hne _ (by omega))).cell
      have z1 := (b1.kept hgp (hne _ (by omega))).cell
      have z2 := (b2.kept hgp (hne _ (by omega))).cell
      refine ⟨.tuple #[.slice none 0 0, .int .i64 80, .int .i64 (pre.length : Int)], ?_, bl.grown hgp bl.size (fun r e => by injection e with e; omega), .inr ⟨by have := HB.out; omega, .inl ⟨pre.length, by rw [← hr]; exact badAt_append_some 0 pre r _ hbad, rfl⟩⟩⟩
      simp [results, Try.f6, go_sem, z0, z1, z2]
end
end Go.Proofs.Ytinbeodihhjfmaa
