/-
  Shared texts, one behind the other: Vscl, Vgat.
-/
import Derived.Test.YtnhlomphdighnaaGreatVecLinW
import Derived.Test.YtnhlomphdighnaaGreatFl

namespace Go.Proofs.YtnhlomphdighnaaGreat
open Go.RowKit Go.Proofs.YtnhlomphdighnaaGreat.Num
set_option linter.unusedVariables false
set_option linter.unusedSimpArgs false
set_option maxRecDepth 100000
def zrx : Rx := ⟨false, (none, 0, 0), (none, 0, 0), 0⟩
theorem made3 (w : World) (B n : Nat) (hB : B ≤ w.heap.size) (hn : n ≤ 100000000) :
  Ow 41 er 3 (w.alloc (.cells (madeCells #[.bool false, .slice none 0 0, .slice none 0 0] (n * 3)) 41)) B (.slice (some ⟨w.heap.size, 0, none⟩) n n) (List.replicate n zrx) := by
 have h := Ow.lit (B := B) er_len w 41 (List.replicate n zrx) (madeCells #[.bool false, .slice none 0 0, .slice none 0 0] (n * 3)) (made_flat (enc := er) er_len (by omega) zrx n) hB (by simp [maxLen]; omega)
 simpa using h
theorem make_rt (n : Nat) (hn : n ≤ 100000000) (W : World) : (Instr.makeSlice 55 (.int .i64 (n : Int)) (.int .i64 (n : Int))).run Tryz.prog W = .ok (.slice (some ⟨W.heap.size, 0, none⟩) n n) (W.alloc (.cells (madeCells #[.bool false, .slice none 0 0, .slice none 0 0] (n * 3)) 41)) := by
 obtain ⟨i, hi, hz0, hz1, hz2⟩ := info_parts info_rt
 have h := run_make (P := Tryz.prog) W 55 41 i _ Tryz.underlying55 hi hz0 .i64 .i64 (n : Int) (n : Int) (by omega) (Int.le_refl _) (by rw [hz2]; omega) (by omega)
 rw [hz1, Int.toNat_natCast] at h
 exact h
theorem flat_setR : ∀ (d : List Rx) (i : Nat) (x : Rx), i < d.length → (((flat er d).set (i * 3) (.bool x.s)).set (i * 3 + 1) (sv x.u)).set (i * 3 + 2) (sv x.t) = flat er (d.set i x)
 | [], i, x, h => by simp at h
 | y :: d, 0, x, _ => by simp [flat, er]
 | y :: d, i + 1, x, h => by
  have ih := flat_setR d i x (by simpa using h)
  rw [List.set_cons_succ, flat, flat, ← ih]
  simp only [er, List.cons_append, List.nil_append, show (i + 1) * 3 = i * 3 + 1 + 1 + 1 by omega, List.set_cons_succ, show i * 3 + 1 + 1 + 1 + 1 = i * 3 + 1 + 1 + 1 + 1 from rfl, show i * 3 + 1 + 1 + 1 + 2 = i * 3 + 2 + 1 + 1 + 1 by omega]
theorem own_lenR {W : World} {B g n c : Nat} {d : List Rx} (h : Ow 41 er 3 W B (.slice (some ⟨g, 0, none⟩) n c) d) : n = d.length := by
 rcases h.form with ⟨e, _⟩ | ⟨g', cap, cur, e, _⟩
 ·cases e
 ·injection e
theorem Ow.putR {W : World} {B g n c i : Nat} {d : List Rx} (h : Ow 41 er 3 W B (.slice (some ⟨g, 0, none⟩) n c) d) (hi : i < d.length) (x : Rx) :
  Ow 41 er 3 (((W.setCell ⟨g, i * 3, none⟩ (.bool x.s)).setCell ⟨g, i * 3 + 1, none⟩ (sv x.u)).setCell ⟨g, i * 3 + 2, none⟩ (sv x.t)) B (.slice (some ⟨g, 0, none⟩) n c) (d.set i x) := by
 have hn := own_lenR h
 subst hn
 have h1 := World.ownsRow.stored (World.ownsRow.stored (World.ownsRow.stored (show W.ownsRow B _ 3 _ d.length _ from h) (i * 3) (.bool x.s)).1 (i * 3 + 1) (sv x.u)).1 (i * 3 + 2) (sv x.t)
 have h2 := h1.1
 rw [flat_setR d i x hi] at h2
 unfold Ow
 rw [List.length_set]
 exact h2
theorem Ow.cellsR {W : World} {B g n c i : Nat} {d : List Rx} {x : Rx} (h : Ow 41 er 3 W B (.slice (some ⟨g, 0, none⟩) n c) d) (hi : d[i]? = some x) :
  (W.cell? ⟨g, i * 3, none⟩ = some (.bool x.s) ∧ W.cell? ⟨g, i * 3 + 1, none⟩ = some (sv x.u) ∧ W.cell? ⟨g, i * 3 + 2, none⟩ = some (sv x.t)) ∧ W.frozen? ⟨g, i * 3, none⟩ = false ∧ W.frozen? ⟨g, i * 3 + 1, none⟩ = false ∧ W.frozen? ⟨g, i * 3 + 2, none⟩ = false := by
 obtain ⟨b, off, e, hb, hc⟩ := (h.rl er_len).get hi
 injection e with e
 injection e with e1 e2
 subst e1 e2
 have c0 := hc 0 _ rfl
 have c1 := hc 1 _ rfl
 have c2 := hc 2 _ rfl
 rw [Nat.zero_add] at c0 c1 c2
 exact ⟨⟨c0, c1, c2⟩, h.frozen rfl _, h.frozen rfl _, h.frozen rfl _⟩
theorem only_putR (W : World) (g i j k : Nat) (a b c : Value) : W.grownBy (((W.setCell ⟨g, i, none⟩ a).setCell ⟨g, j, none⟩ b).setCell ⟨g, k, none⟩ c) (some g) :=
 only_set (p := ⟨g, k, none⟩) (only_set (p := ⟨g, j, none⟩) (only_set (p := ⟨g, i, none⟩) (only_refl W (some g)) rfl a) rfl b) rfl c
theorem fl_mem' {α : Type} {d : List α} {k : Nat} {x : α} (h : d[k]? = some x) : x ∈ d := List.mem_of_getElem? h
def gth (f : Int → Rat) : Nat → List Tm
 | 0 => []
 | k + 1 => gth f k ++ (if f (k : Int) = 0 then [] else [((k : Int), f (k : Int))])
theorem gth_mem {f : Int → Rat} {k : Nat} : ∀ t ∈ gth f k, 0 ≤ t.1 ∧ t.1 < (k : Int) ∧ t.2 ≠ 0 := by
 induction k with
 | zero => intro t h; simp [gth] at h
 | succ k ih =>
  intro t h
  rw [gth] at h
  rcases List.mem_append.1 h with h | h
  ·obtain ⟨a, b, c⟩ := ih t h
   exact ⟨a, by omega, c⟩
  ·by_cases h0 : f (k : Int) = 0
   ·rw [if_pos h0] at h; simp at h
   ·rw [if_neg h0] at h
    simp at h
    subst h
    exact ⟨by simp, by simp; omega, h0⟩
theorem gth_fm (f : Int → Rat) (k : Nat) : Fm (gth f k) := by
 refine ⟨?_, fun t h => ⟨(gth_mem t h).1, (gth_mem t h).2.2⟩⟩
 induction k with
 | zero => exact List.Pairwise.nil
 | succ k ih =>
  rw [gth]
  refine List.pairwise_append.2 ⟨ih, ?_, fun x hx y hy => ?_⟩
  ·by_cases h0 : f (k : Int) = 0
   ·rw [if_pos h0]; exact List.Pairwise.nil
   ·rw [if_neg h0]; simp
  ·by_cases h0 : f (k : Int) = 0
   ·rw [if_pos h0] at hy; simp at hy
   ·rw [if_neg h0] at hy
    simp at hy
    subst hy
    exact (gth_mem x hx).2.1
theorem gth_sum (f : Int → Rat) (k : Nat) (c : Int) : gsum (gth f k) c = if 0 ≤ c ∧ c < (k : Int) then f c else 0 := by
 induction k with
 | zero =>
  rw [if_neg (by omega)]
  rfl
 | succ k ih =>
  rw [gth, gsum_append, ih]
  by_cases hc : c = (k : Int)
  ·subst hc
   have ha : (if 0 ≤ (k : Int) ∧ (k : Int) < (k : Int) then f (k : Int) else 0) = 0 := if_neg (by omega)
   have hb : (if 0 ≤ (k : Int) ∧ (k : Int) < ((k + 1 : Nat) : Int) then f (k : Int) else 0) = f (k : Int) := if_pos (by omega)
   rw [ha, hb, Rat.zero_add]
   by_cases h0 : f (k : Int) = 0
   ·rw [if_pos h0, h0]; rfl
   ·rw [if_neg h0]; simp [gsum, Rat.add_zero]
  ·have h1 : gsum (if f (k : Int) = 0 then [] else [((k : Int), f (k : Int))]) c = 0 := by
    by_cases h0 : f (k : Int) = 0
    ·rw [if_pos h0]; rfl
    ·rw [if_neg h0]
     simp only [gsum]
     rw [if_neg (fun e => hc e.symm), Rat.add_zero]
   rw [h1, Rat.add_zero]
   by_cases h : 0 ≤ c ∧ c < (k : Int)
   ·rw [if_pos h, if_pos (by omega)]
   ·rw [if_neg h, if_neg (by omega)]
set_option maxHeartbeats 8000000 in
theorem gather_g {w : World} {v : Value} {d : List Rx} {L : Nat} (hv : Fv w v d L) (hn : d.length ≤ 100000) (h1 : 1 ≤ L) (hL : L ≤ 1000000) :
  Calls Tryz.prog 35 #[v] w (VRet w (xf d) d.length L) := by
 obtain ⟨i0, hi, hz0, hz1, hz2⟩ := info_parts info_tm
 obtain ⟨A, c, e1, hc1, hc2, hc3⟩ := id hv.1
 obtain ⟨n, hlen⟩ : ∃ n, n = d.length := ⟨_, rfl⟩
 rw [← hlen] at e1 hc1 hn ⊢
 subst e1
 have HV := hide hv
 have HN := hide hlen
 have T0 := hide (show Tg w w.heap.size (.slice none 0 0) [] L from ⟨Ow.nil _ _ _ _ _, fun x hx => by cases hx⟩)
 unfold maxLen at hc2
 clear hv hc3 hlen
 go_enter Tryz.func35, Tryz.ntmps35
 go_wp2_with fail
 go_loopw [3, 8] (fun ov iv wr => ∃ (k : Nat) (os : List Tx), k ≤ n ∧ iv = .int .i64 (k : Int) ∧ Hid (tms os = gth (xf d) k) ∧ Hid (os.length ≤ k) ∧ Hid (Below w.heap.size w wr) ∧ Hid (Tg wr w.heap.size ov os L)) (fun _ iv _ => n - (intOf iv).toNat)
 case atStart => exact ⟨0, [], Nat.zero_le _, rfl, hide rfl, hide (Nat.le_refl _), hide (Below.refl _ _), T0⟩
 case round =>
  obtain ⟨k, os, hk, rfl, E, GL, B, T⟩ := hrel
  by_cases hlt : k < n
  ·obtain ⟨x, hx⟩ := len_of (d := d) (k := k) (by rw [← HN.out]; exact hlt)
   have HC := hide (show ∀ W, Below w.heap.size w W → E3 W A (k * 3) x from fun W h => E3.of (HV.out.1.step h) hx)
   have XF := hide (xf_in hx)
   have b8 := alloc_below wr (rbox x.s (sv x.u) (sv x.t))
   have B5 := hide (Below.step B.out B.out.size b8)
   have X5 := hide ((HV.out.2 x (fl_mem' hx)).step B5.out)
   have T5 := hide (T.out.step b8)
   have Q5 := hide (Bq.new wr x.s (sv x.u) (sv x.t))
   have HLEN := hide (show os.length + 1 ≤ 1000000000000 by have := GL.out; omega)
   have l0 : (0 : Int) ≤ (k : Int) := by omega
   have l1 : (k : Int) < (n : Int) := by omega
   obtain ⟨b, off, rfl, -⟩ := HC.out w (Below.refl _ _)
   obtain ⟨c0, c1, c2⟩ := (HC.out _ B.out).cells
   obtain ⟨p0, p1, p2⟩ := bq3 Q5.out
   clear hx b8 T B
   go_wp2_with fail
   generalize (wr.alloc (rbox x.s (sv x.u) (sv x.t))) = w3 at *
   generalize wr.heap.size = g5 at *
   refine (sign_r X5.out (by omega)).mono ?_
   rintro e w4 ⟨rfl, bx⟩
   replace B5 := hide (Below.step B5.out B5.out.size bx)
   replace X5 := hide (X5.out.step bx)
   replace T5 := hide (T5.out.step bx)
   replace Q5 := hide (Q5.out.step bx)
   clear bx c0 c1 c2 p0 p1 p2
   by_cases h0 : x.r = 0
   ·have t2 : (cmpR x.r 0 != 0) = false := by rw [h0, cmpR_same]; rfl
    have E2 := hide (show tms os = gth (xf d) (k + 1) by rw [gth, XF.out, if_pos h0, List.append_nil]; exact E.out)
    clear h0 Q5 X5
    go_wp2_with fail
    exact ⟨⟨k + 1, os, by omega, by go_num, E2, hide (Nat.le_succ_of_le GL.out), B5, T5⟩, by simp [intOf]; omega⟩
   ·have t2 : (cmpR x.r 0 != 0) = true := cmpR_ne h0
    obtain ⟨p0, p1, p2⟩ := bq3 Q5.out
    have XN := hide h0
    clear h0
    go_wp2_with fail
    refine (form_g X5.out h1 (by omega)).mono ?_
    rintro e w6 ⟨y, rfl, hy, ry, bx⟩
    have T7 := hide (T5.out.step bx)
    have B7 := hide (Below.step B5.out B5.out.size bx)
    have Y7 := hide (ry.mono (B' := w.heap.size) B5.out.size)
    have HY := hide hy
    clear hy ry bx p0 p1 p2 Q5 T5 X5
    go_wp2_with (at_builtin; go_must (refine wpList_pushE rfl (.tmp 16) (.tmp 21) 31 rfl Tryz.underlying31 hi hz0 hz1 hz2 rfl (by omega) et_len et_one w6 w.heap.size _ os ⟨(k : Int), y⟩ _ rfl T7.out.1 rfl rfl HLEN.out (by decide) B7.out.size ?_); intro v' w' ho hg; have TF := hide (T7.out.push ho hg.1 Y7.out (Nat.le_refl _)); have CF := hide (below_own B7.out T7.out.1 hg.1 B7.out.size); clear ho hg)
    have E2 := hide (show tms (os ++ [⟨(k : Int), y⟩]) = gth (xf d) (k + 1) by rw [gth, XF.out, if_neg XN.out, tms_append, E.out, ← HY.out]; rfl)
    have K2 := hide (show (os ++ [(⟨(k : Int), y⟩ : Tx)]).length ≤ k + 1 by have := GL.out; simp; omega)
    exact ⟨⟨k + 1, os ++ [⟨(k : Int), y⟩], by omega, by go_num, E2, K2, CF, TF⟩, by simp [intOf]; omega⟩
  ·obtain rfl : k = n := by omega
   have SU := hide (show ∀ c, 0 ≤ c → gsum (tms os) c = xf d c from fun c hc => by
    rw [E.out, gth_sum]
    by_cases h : c < (k : Int)
    ·rw [if_pos ⟨hc, h⟩]
    ·rw [if_neg (fun e => h e.2), xf_out d c (.inr (by rw [← HN.out]; omega))])
   have FF := hide (show Fm (tms os) by rw [E.out]; exact gth_fm _ _)
   clear E
   go_wp2_with fail
   go_ret
   exact ⟨_, os, rfl, T.out, FF.out, SU.out, GL.out, B.out⟩
end Go.Proofs.YtnhlomphdighnaaGreat
