/-
  vec.Scatter.
-/
import Derived.Test.YtajjpepjbflojaaGreatVgat

namespace Go.Proofs.YtajjpepjbflojaaGreat
open Go.RowKit Go.Proofs.YtajjpepjbflojaaGreat.Num
set_option linter.unusedVariables false
set_option linter.unusedSimpArgs false
set_option maxRecDepth 100000

def zrx : Rx := ⟨false, (none, 0, 0), (none, 0, 0), 0⟩
theorem made3 (w : World) (B n : Nat) (hB : B ≤ w.heap.size) (hn : n ≤ 100000000) :
    Ow 26 er 3 (w.alloc (.cells (madeCells #[.bool false, .slice none 0 0, .slice none 0 0] (n * 3)) 26)) B (.slice (some ⟨w.heap.size, 0, none⟩) n n) (List.replicate n zrx) := by
  have h := Ow.lit (B := B) er_len w 26 (List.replicate n zrx) (madeCells #[.bool false, .slice none 0 0, .slice none 0 0] (n * 3)) (made_flat (enc := er) er_len (by omega) zrx n) hB (by simp [maxLen]; omega)
  simpa using h
theorem make_rt (n : Nat) (hn : n ≤ 100000000) (W : World) : (Instr.makeSlice 37 (.int .i64 (n : Int)) (.int .i64 (n : Int))).run Tryz.prog W = .ok (.slice (some ⟨W.heap.size, 0, none⟩) n n) (W.alloc (.cells (madeCells #[.bool false, .slice none 0 0, .slice none 0 0] (n * 3)) 26)) := by
  obtain ⟨i, hi, hz0, hz1, hz2⟩ := info_parts info_rt
  have h := run_make (P := Tryz.prog) W 37 26 i _ Tryz.underlying37 hi hz0 .i64 .i64 (n : Int) (n : Int) (by omega) (Int.le_refl _) (by rw [hz2]; omega) (by omega)
  rw [hz1, Int.toNat_natCast] at h
  exact h
theorem flat_setR : ∀ (d : List Rx) (i : Nat) (x : Rx), i < d.length → (((flat er d).set (i * 3) (.bool x.s)).set (i * 3 + 1) (sv x.u)).set (i * 3 + 2) (sv x.t) = flat er (d.set i x)
  | [], i, x, h => by simp at h
  | y :: d, 0, x, _ => by simp [flat, er]
  | y :: d, i + 1, x, h => by
    have ih := flat_setR d i x (by simpa using h)
    rw [List.set_cons_succ, flat, flat, ← ih]
    simp only [er, List.cons_append, List.nil_append, show (i + 1) * 3 = i * 3 + 1 + 1 + 1 by omega, List.set_cons_succ, show i * 3 + 1 + 1 + 1 + 1 = i * 3 + 1 + 1 + 1 + 1 from rfl, show i * 3 + 1 + 1 + 1 + 2 = i * 3 + 2 + 1 + 1 + 1 by omega]
theorem own_lenR {W : World} {B g n c : Nat} {d : List Rx} (h : Ow 26 er 3 W B (.slice (some ⟨g, 0, none⟩) n c) d) : n = d.length := by
  rcases h.form with ⟨e, _⟩ | ⟨g', cap, cur, e, _⟩
  · cases e
  · injection e
theorem Ow.putR {W : World} {B g n c i : Nat} {d : List Rx} (h : Ow 26 er 3 W B (.slice (some ⟨g, 0, none⟩) n c) d) (hi : i < d.length) (x : Rx) :
    Ow 26 er 3 (((W.setCell ⟨g, i * 3, none⟩ (.bool x.s)).setCell ⟨g, i * 3 + 1, none⟩ (sv x.u)).setCell ⟨g, i * 3 + 2, none⟩ (sv x.t)) B (.slice (some ⟨g, 0, none⟩) n c) (d.set i x) := by
  have hn := own_lenR h
  subst hn
  have h1 := World.ownsRow.stored (World.ownsRow.stored (World.ownsRow.stored (show W.ownsRow B _ 3 _ d.length _ from h) (i * 3) (.bool x.s)).1 (i * 3 + 1) (sv x.u)).1 (i * 3 + 2) (sv x.t)
  have h2 := h1.1
  rw [flat_setR d i x hi] at h2
  unfold Ow
  rw [List.length_set]
  exact h2
theorem Ow.cellsR {W : World} {B g n c i : Nat} {d : List Rx} {x : Rx} (h : Ow 26 er 3 W B (.slice (some ⟨g, 0, none⟩) n c) d) (hi : d[i]? = some x) :
    (W.cell? ⟨g, i * 3, none⟩ = some (.bool x.s) ∧ W.cell? ⟨g, i * 3 + 1, none⟩ = some (sv x.u) ∧ W.cell? ⟨g, i * 3 + 2, none⟩ = some (sv x.t)) ∧ W.frozen? ⟨g, i * 3, none⟩ = false ∧ W.frozen? ⟨g, i * 3 + 1, none⟩ = false ∧ W.frozen? ⟨g, i * 3 + 2, none⟩ = false := by
  obtain ⟨b, off, e, hb, hc⟩ := (h.rl er_len).get hi
  injection e with e
  injection e with e1 e2
  subst e1 e2
  have c0 := hc 0 _ rfl
  have c1 := hc 1 _ rfl
  have c2 := hc 2 _ rfl
  rw [Nat.zero_add] at c0 c1 c2
  exact ⟨⟨c0, c1, c2⟩, h.frozen rfl _, h.frozen rfl _, h.frozen rfl _⟩
theorem only_putR (W : World) (g i j k : Nat) (a b c : Value) : W.grownBy (((W.setCell ⟨g, i, none⟩ a).setCell ⟨g, j, none⟩ b).setCell ⟨g, k, none⟩ c) (some g) :=
  only_set (p := ⟨g, k, none⟩) (only_set (p := ⟨g, j, none⟩) (only_set (p := ⟨g, i, none⟩) (only_refl W (some g)) rfl a) rfl b) rfl c
theorem ow_ow_ne {α β : Type} {enc : α → List Value} {enc' : β → List Value} {k k' : Nat} {T T' : TypeId} {W : World} {B B' : Nat} {v v' : Value} {d : List α} {d' : List β} (h1 : Ow T enc k W B v d) (h2 : Ow T' enc' k' W B' v' d') (hne : T ≠ T') : v.ownBlock = none ∨ v.ownBlock ≠ v'.ownBlock := by
  rcases h1.form with ⟨rfl, _⟩ | ⟨g, cap, cur, rfl, _, _, hh, _⟩
  · exact .inl rfl
  · refine .inr (fun hq => ?_)
    rcases h2.form with ⟨rfl, _⟩ | ⟨g', cap', cur', rfl, _, _, hh', _⟩
    · cases hq
    · have e : g = g' := by simpa [Value.ownBlock] using hq
      subst e
      rw [hh] at hh'
      injection hh' with hh'
      injection hh' with _ ht
      exact hne ht
theorem Tg.kept {W W' : World} {B L : Nat} {v u : Value} {d : List Tx} {B' : Nat} {f : List Rx} (h : Tg W B v d L) (ho : Ow 26 er 3 W B' u f) (hg : W.grownBy W' u.ownBlock) : Tg W' B v d L :=
  ⟨h.1.kept hg (ow_ow_ne h.1 ho (by decide)), fun x hx => (h.2 x hx).grownT hg (fun g e => ho.ot3 g e)⟩
/-- The list's fractions below lim are told by val. -/
def Sc (W : World) (B : Nat) (val : Nat → Rat) (lim n M : Nat) (cur : List Rx) : Prop := cur.length = n ∧ ∀ (j : Nat) x, j < lim → cur[j]? = some x → x.r = val j ∧ Rg W B x M
theorem Sc.step {W W' : World} {B lim n M : Nat} {val : Nat → Rat} {cur : List Rx} (h : Sc W B val lim n M cur) (hb : Below W.heap.size W W') : Sc W' B val lim n M cur := ⟨h.1, fun j x hj hx => ⟨(h.2 j x hj hx).1, (h.2 j x hj hx).2.step hb⟩⟩
theorem Sc.put {W W' : World} {B lim lim' n M c : Nat} {val val' : Nat → Rat} {cur : List Rx} {z : Rx} {row : Option Nat} (h : Sc W B val lim n M cur) (hc : c < n) (hz : z.r = val' c) (rz : Rg W B z M) (hv : ∀ j, j < lim' → j ≠ c → j < lim ∧ val' j = val j) (hg : W.grownBy W' row) (hn : ∀ g, row = some g → Ot W g) : Sc W' B val' lim' n M (cur.set c z) := by
  refine ⟨by rw [List.length_set]; exact h.1, fun j x hj hx => ?_⟩
  by_cases e : j = c
  · subst e
    rw [List.getElem?_set_self (by rw [h.1]; exact hc)] at hx
    injection hx with hx
    subst hx
    exact ⟨hz, rz.grownT hg hn⟩
  · rw [List.getElem?_set_ne (fun h => e h.symm)] at hx
    obtain ⟨h1, h2⟩ := hv j hj e
    exact ⟨(h.2 j x h1 hx).1.trans h2.symm, (h.2 j x h1 hx).2.grownT hg hn⟩
/-- What is refused. -/
def ScBad (ts : List Tm) (n : Int) : Prop := n < 0 ∨ 65536 < n ∨ ∃ c : Int, n ≤ c ∧ 0 ≤ c ∧ gsum ts c ≠ 0
theorem fm_last {xs : List Tm} {l : Tm} (h : Fm (xs ++ [l])) : gsum (xs ++ [l]) l.1 = l.2 ∧ ∀ t ∈ xs ++ [l], t.1 ≤ l.1 := by
  have hp := List.pairwise_append.1 h.1
  have hx : ∀ t ∈ xs, t.1 < l.1 := fun t ht => hp.2.2 t ht l (by simp)
  refine ⟨?_, fun t ht => ?_⟩
  · rw [gsum_append, gsum_none (fun t ht => by have := hx t ht; omega), Rat.zero_add]
    simp [gsum, Rat.add_zero]
  · rcases List.mem_append.1 ht with ht | ht
    · have := hx t ht; omega
    · simp at ht; subst ht; exact Int.le_refl _
/-- Behind the first k, of a list in its one form, the next one's place has nothing. -/
theorem fm_take {ts : List Tm} {k : Nat} {t : Tm} (h : Fm ts) (ht : ts[k]? = some t) : gsum (ts.take k) t.1 = 0 := by
  refine gsum_none (fun x hx => ?_)
  obtain ⟨i, hi, rfl⟩ := List.mem_iff_getElem.1 hx
  have hik : i < k := by simp at hi; omega
  have hil : i < ts.length := by simp at hi; omega
  have hkl := (List.getElem?_eq_some_iff.1 ht).1
  have e : ts[k] = t := (List.getElem?_eq_some_iff.1 ht).2
  have := (List.pairwise_iff_getElem.1 h.1) i k hil hkl hik
  rw [List.getElem_take]
  rw [e] at this
  omega

set_option maxHeartbeats 8000000 in
theorem scatter_g {w : World} {v : Value} {d : List Tx} {L : Nat} {n : Int} (hv : Tv w v d L) (hn : d.length ≤ 1000) (h1 : 1 ≤ L) (hL : L ≤ 10000) :
    Calls Tryz.prog 56 #[v, .int .i64 n] w fun e w' => Below w.heap.size w w' ∧
      ((ScBad (tms d) n ∧ e = .returned (.tuple #[.slice none 0 0, .int .i64 2])) ∨
       (¬ ScBad (tms d) n ∧ ∃ v' l, e = .returned (.tuple #[v', .int .i64 0]) ∧ Fg w' w.heap.size v' l (d.length * (L + 1) + 1) ∧ (l.length : Int) = n ∧ ∀ (j : Nat) x, l[j]? = some x → x.r = gsum (tms d) (j : Int))) := by
  obtain ⟨A, m9, c, rfl⟩ := rv_sl hv.1
  have MC := hide (make_v hv (by omega) h1 (by omega))
  obtain ⟨M, hM⟩ : ∃ M, M = d.length * (L + 1) + 1 := ⟨_, rfl⟩
  rw [← hM] at MC ⊢
  have M1 := hide (show 1 ≤ M by omega)
  clear hM hv
  go_enter Tryz.func56, Tryz.ntmps56
  go_wp2_with fail
  refine MC.out.mono ?_
  rintro e w1 ⟨v1, d1, rfl, t1, f1, g1, n1, bx⟩
  obtain ⟨A1, m0, c1, rfl⟩ := rv_sl t1.tv.1
  have T1 := hide t1
  have F1 := hide f1
  have G1 := hide (show ∀ c, 0 ≤ c → gsum (tms d1) c = gsum (tms d) c from g1)
  have N1 := hide (show d1.length ≤ 1000 by omega)
  have HM := hide (show m0 = d1.length by
    obtain ⟨A', c', e, _⟩ := t1.tv.1
    injection e with e1 e2 e3)
  have B1 := hide bx
  clear t1 f1 g1 n1 bx MC
  by_cases hneg : n < 0
  · have q1 : decide (n < 0) = true := decide_eq_true hneg
    have BAD := hide (show ScBad (tms d) n from .inl hneg)
    clear hneg
    go_wp2_with fail
    go_ret2
    exact ⟨B1.out, .inl ⟨BAD.out, rfl⟩⟩
  · by_cases hbig : 65536 < n
    · have q1 : decide (n < 0) = false := decide_eq_false hneg
      have q2 : decide (65536 < n) = true := decide_eq_true hbig
      have BAD := hide (show ScBad (tms d) n from .inr (.inl hbig))
      clear hneg hbig
      go_wp2_with fail
      go_ret2
      exact ⟨B1.out, .inl ⟨BAD.out, rfl⟩⟩
    · obtain ⟨p, rfl⟩ : ∃ p : Nat, n = (p : Int) := ⟨n.toNat, by omega⟩
      have hp : p ≤ 65536 := by omega
      have q1 : decide ((p : Int) < 0) = false := decide_eq_false hneg
      have q2 : decide ((65536 : Int) < (p : Int)) = false := decide_eq_false hbig
      have q3 : decide (65536 < p) = false := decide_eq_false (by omega)
      have GP := hide (show ¬ (p : Int) < 0 ∧ ¬ (65536 : Int) < (p : Int) from ⟨hneg, hbig⟩)
      clear hneg hbig
      have hmk := make_rt p (by omega) w1
      have O1 := hide (made3 w1 w.heap.size p B1.out.size (by omega))
      have BA := hide (alloc_below w1 (.cells (madeCells #[.bool false, .slice none 0 0, .slice none 0 0] (p * 3)) 26))
      generalize madeCells #[.bool false, .slice none 0 0, .slice none 0 0] (p * 3) = Z at *
      have hpx : p ≤ 9223372036854775807 := by omega
      have hpz : (0 : Int) ≤ (p : Int) := by omega
      rcases snoc_or d1 with hd | ⟨xs, l, hd⟩
      · have hm0 : m0 = 0 := by rw [HM.out, hd]; rfl
        have NB := hide (show ∀ x ∈ d1, x.c < (p : Int) from fun x hx => by rw [hd] at hx; cases hx)
        have GOOD := hide (show ¬ ScBad (tms d) (p : Int) from by
          rintro (h | h | ⟨c, h, h0, hc⟩)
          · exact GP.out.1 h
          · exact GP.out.2 h
          · rw [← G1.out c h0, hd] at hc
            exact hc rfl)
        subst hm0
        clear hd
        go_wp2_with fail
        have B2 := hide (Below.step B1.out B1.out.size BA.out)
        have T2 := hide (T1.out.step BA.out)
        have hgs : Hid (w1.heap.size < (w1.alloc (.cells Z 26)).heap.size) := hide (O1.out.lt rfl).2
        clear hmk T1 BA B1
        generalize (w1.alloc (.cells Z 26)) = w2 at *
        generalize w1.heap.size = g0 at *
        have S2 := hide (show Sc w2 w.heap.size (fun _ => 0) 0 p M (List.replicate p zrx) from ⟨by simp, fun j x h => by omega⟩)
        go_loopw [37] (fun iv wr => ∃ (k : Nat) (cur : List Rx), k ≤ p ∧ iv = .int .i64 (k : Int) ∧ Hid (Below w.heap.size w wr) ∧ Hid (Ow 26 er 3 wr w.heap.size (.slice (some ⟨g0, 0, none⟩) p p) cur) ∧ Hid (Sc wr w.heap.size (fun _ => 0) k p M cur) ∧ Hid (Tg wr w.heap.size (.slice A1 0 c1) d1 M)) (fun iv _ => p - (intOf iv).toNat)
        case atStart => exact ⟨0, _, Nat.zero_le _, rfl, B2, O1, S2, T2⟩
        case round =>
          obtain ⟨k, cur, hk, rfl, B, O, S, T⟩ := hrel
          by_cases hlt : k < p
          · have l0 : (0 : Int) ≤ (k : Int) := by omega
            have l1 : (k : Int) < (p : Int) := by omega
            go_wp2_with fail
            refine (whole_o wr 0 (by omega) (by omega)).mono ?_
            rintro e w5 ⟨z, rfl, hz, rz, bx⟩
            have B5 := hide (Below.step B.out B.out.size bx)
            have O5 := hide (O.out.step bx)
            have S5 := hide (S.out.step bx)
            have T5 := hide (T.out.step bx)
            have Z5 := hide ((rz.mono (B' := w.heap.size) B.out.size).more (M := M) M1.out)
            have HZ := hide (show z.r = 0 by rw [hz]; rfl)
            clear hz rz bx B O S T
            obtain ⟨y, hy⟩ := len_of (d := cur) (k := k) (by rw [S5.out.1]; exact hlt)
            obtain ⟨⟨e0, e1, e2⟩, f0, f1, f2⟩ := O5.out.cellsR hy
            have hg := only_putR w5 g0 (k * 3) (k * 3 + 1) (k * 3 + 2) (.bool z.s) (sv z.u) (sv z.t)
            have O6 := hide (O5.out.putR (i := k) (by rw [S5.out.1]; exact hlt) z)
            have S6 := hide (S5.out.put (lim' := k + 1) (val' := fun _ => 0) hlt HZ.out Z5.out (fun j h1 h2 => ⟨by omega, rfl⟩) hg (fun g e => O5.out.ot3 g (by rw [← e]; rfl)))
            have T6 := hide (T5.out.kept O5.out hg)
            have B6 := hide (show Below w.heap.size w _ from (B5.out.grown hg B5.out.size (fun g e => by injection e with e; subst e; exact (O5.out.lt rfl).1)))
            clear hy hg O5 S5 T5 Z5 B5
            go_wp2_with fail
            exact ⟨⟨k + 1, _, by omega, by go_num, B6, O6, S6, T6⟩, by simp [intOf]; omega⟩
          · obtain rfl : k = p := by omega
            have S0 := hide (show Sc wr w.heap.size (fun j => gsum (tms (d1.take 0)) (j : Int)) k k M cur from ⟨S.out.1, fun j x hj hx => S.out.2 j x hj hx⟩)
            have B0 := hide B.out
            have O0 := hide O.out
            have T0 := hide T.out
            clear S B O T B2 O1 S2 T2
            go_wp2_with fail
            obtain ⟨wo, hwo⟩ : ∃ wo, wo = wr := ⟨_, rfl⟩
            subst hwo
            go_loopw [47] (fun iv wr => ∃ (q : Nat) (cur : List Rx), q ≤ 0 ∧ iv = .int .i64 (q : Int) ∧ Hid (Below w.heap.size w wr) ∧ Hid (Ow 26 er 3 wr w.heap.size (.slice (some ⟨g0, 0, none⟩) k k) cur) ∧ Hid (Sc wr w.heap.size (fun j => gsum (tms (d1.take q)) (j : Int)) k k M cur) ∧ Hid (Tg wr w.heap.size (.slice A1 0 c1) d1 M)) (fun iv _ => 0 - (intOf iv).toNat)
            case atStart => exact ⟨0, _, Nat.zero_le _, rfl, B0, O0, S0, T0⟩
            case round =>
              obtain ⟨q, cur, hq, rfl, B, O, S, T⟩ := hrel
              by_cases hlt2 : q < 0
              · obtain ⟨t, ht⟩ := len_of (d := d1) (k := q) (by rw [← HM.out]; exact hlt2)
                obtain ⟨tc, tx⟩ := t
                have htm : (tms d1)[q]? = some (tc, tx.r) := by unfold tms; rw [List.getElem?_map, ht]; rfl
                have hc0 : 0 ≤ tc := (F1.out.2 _ (List.mem_of_getElem? htm)).1
                obtain ⟨cc, rfl⟩ : ∃ cc : Nat, tc = (cc : Int) := ⟨tc.toNat, by omega⟩
                have hcp : cc < k := by have := NB.out _ (List.mem_of_getElem? ht); simp at this; omega
                have FT := hide (show gsum (tms (d1.take q)) (cc : Int) = 0 by rw [tms_take]; exact fm_take F1.out htm)
                have ET := hide (show tms (d1.take (q + 1)) = tms (d1.take q) ++ [((cc : Int), tx.r)] from tms_snoc ht)
                obtain ⟨b, off, rfl, hb, hcs⟩ := T.out.tv.1.get ht
                have c0 := hcs 0 _ rfl
                have c1' := hcs 1 _ rfl
                have c2 := hcs 2 _ rfl
                have c3 := hcs 3 _ rfl
                rw [Nat.add_zero] at c0
                have RX := hide (T.out.2 _ (List.mem_of_getElem? ht))
                have l0 : (0 : Int) ≤ (q : Int) := by omega
                have l1 : (q : Int) < ((0 : Nat) : Int) := by omega
                have l2 : (0 : Int) ≤ (cc : Int) := by omega
                have l3 : (cc : Int) < (k : Int) := by omega
                have b8 := alloc_below wr (.cells #[.int .i64 (cc : Int), .bool tx.s, sv tx.u, sv tx.t] 63)
                have BX := hide (box_cells (heap_alloc_new wr (.cells #[.int .i64 (cc : Int), .bool tx.s, sv tx.u, sv tx.t] 63)))
                have B5 := hide (Below.step B.out B.out.size b8)
                have O5 := hide (O.out.step b8)
                have S5 := hide (S.out.step b8)
                have T5 := hide (T.out.step b8)
                have R5 := hide (RX.out.step b8)
                obtain ⟨y, hy⟩ := len_of (d := cur) (k := cc) (by rw [S5.out.1]; exact hcp)
                obtain ⟨⟨e0, e1, e2⟩, f0, f1, f2⟩ := O5.out.cellsR hy
                obtain ⟨x0, x1, x2, x3⟩ := BX.out
                have hg := only_putR (wr.alloc (.cells #[.int .i64 (cc : Int), .bool tx.s, sv tx.u, sv tx.t] 63)) g0 (cc * 3) (cc * 3 + 1) (cc * 3 + 2) (.bool tx.s) (sv tx.u) (sv tx.t)
                have O6 := hide (O5.out.putR (i := cc) (by rw [S5.out.1]; exact hcp) tx)
                have S6 := hide (S5.out.put (lim' := k) (val' := fun j => gsum (tms (d1.take (q + 1))) (j : Int)) hcp (show tx.r = gsum (tms (d1.take (q + 1))) (cc : Int) by rw [ET.out, gsum_append, FT.out, Rat.zero_add]; simp [gsum, Rat.add_zero]) R5.out (fun j h1 h2 => ⟨h1, by
                  show gsum (tms (d1.take (q + 1))) (j : Int) = gsum (tms (d1.take q)) (j : Int)
                  rw [ET.out, gsum_append]
                  have : ¬ ((cc : Int) = (j : Int)) := by omega
                  simp [gsum, this, Rat.add_zero]
                  try (intro h; omega)⟩) hg (fun g e => O5.out.ot3 g (by rw [← e]; rfl)))
                have T6 := hide (T5.out.kept O5.out hg)
                have B6 := hide (show Below w.heap.size w _ from (B5.out.grown hg B5.out.size (fun g e => by injection e with e; subst e; exact (O5.out.lt rfl).1)))
                clear hy hg O5 S5 T5 R5 B5 BX hcs hb ht htm b8 O S T B RX
                go_wp2_with fail
                all_goals exact ⟨⟨q + 1, _, by omega, by go_num, B6, O6, S6, T6⟩, by simp [intOf]; omega⟩
              · obtain rfl : q = 0 := by omega
                have FIN := hide (show Fg wr w.heap.size (.slice (some ⟨g0, 0, none⟩) k k) cur M from ⟨O.out, fun x hx => by
                  obtain ⟨j, hj, rfl⟩ := List.mem_iff_getElem.1 hx
                  exact (S.out.2 j _ (by rw [← S.out.1]; exact hj) (List.getElem?_eq_getElem hj)).2⟩)
                have VAL := hide (show ∀ (j : Nat) x, cur[j]? = some x → x.r = gsum (tms d) (j : Int) from fun j x hx => by
                  have hj : j < cur.length := (List.getElem?_eq_some_iff.1 hx).1
                  have h := (S.out.2 j x (by rw [← S.out.1]; exact hj) hx).1
                  rw [List.take_of_length_le (by rw [← HM.out]; exact Nat.le_refl _)] at h
                  rw [h]
                  exact G1.out _ (by omega))
                have LEN := hide S.out.1
                clear O S T S0 B0 O0 T0
                go_wp2_with fail
                go_ret2
                exact ⟨B.out, .inr ⟨GOOD.out, _, cur, rfl, FIN.out, by rw [LEN.out], VAL.out⟩⟩
      · obtain ⟨m, hm⟩ : ∃ m, m = xs.length := ⟨_, rfl⟩
        have hm0 : m0 = m + 1 := by rw [HM.out, hd, hm]; simp
        have hl : d1[m]? = some l := by rw [hd, hm]; simp
        have hfl := fm_last (xs := tms xs) (l := tm l) (by have h := F1.out; rw [hd, tms_append] at h; exact h)
        have hml : m + 1 ≤ 1000 := by have := N1.out; rw [← HM.out, hm0] at this; exact this
        subst hm0
        obtain ⟨b, off, rfl, hb, hcs⟩ := T1.out.tv.1.get hl
        have z0 := hcs 0 _ rfl
        rw [Nat.add_zero] at z0
        have hw : IntKind.i64.wrap (m : Int) = (m : Int) := IntWalk.i64_in _ (by omega)
        have l2 : (0 : Int) ≤ (m : Int) := by omega
        have l3 : (m : Int) < ((m + 1 : Nat) : Int) := by omega
        clear hcs hb
        by_cases hq : (p : Int) ≤ l.c
        · have t4 : decide ((p : Int) ≤ l.c) = true := decide_eq_true hq
          have BAD := hide (show ScBad (tms d) (p : Int) from .inr (.inr ⟨l.c, hq, by omega, by
            rw [← G1.out l.c (by omega), hd, tms_append]
            have e : gsum (tms xs ++ [tm l]) l.c = (tm l).2 := hfl.1
            rw [show tms [l] = [tm l] from rfl, e]
            exact (F1.out.2 (tm l) (by rw [hd, tms_append]; simp [tms])).2⟩))
          have BB := hide B1.out
          clear hq hfl hl hd hm hmk O1 BA T1
          go_wp2_with fail
          go_ret2
          exact ⟨BB.out, .inl ⟨BAD.out, rfl⟩⟩
        · have t4 : decide ((p : Int) ≤ l.c) = false := decide_eq_false hq
          have NB := hide (show ∀ x ∈ d1, x.c < (p : Int) from fun x hx => by
            have h := hfl.2 (tm x) (by rw [show tms xs ++ [tm l] = tms d1 by rw [hd, tms_append]; rfl]; exact List.mem_map.2 ⟨x, hx, rfl⟩)
            have h : x.c ≤ l.c := h
            omega)
          have GOOD := hide (show ¬ ScBad (tms d) (p : Int) from by
            rintro (h | h | ⟨c, h, h0, hc⟩)
            · exact GP.out.1 h
            · exact GP.out.2 h
            · rw [← G1.out c h0] at hc
              exact hc (gsum_none (fun t ht => by
                obtain ⟨x, hx, rfl⟩ := List.mem_map.1 ht
                have := NB.out x hx
                show x.c ≠ c
                omega)))
          clear hq hfl hl hd hm
          go_wp2_with fail
          clear z0 hw l2 l3
          generalize (some (⟨b, off, none⟩ : Addr)) = A1 at *
          have B2 := hide (Below.step B1.out B1.out.size BA.out)
          have T2 := hide (T1.out.step BA.out)
          have hgs : Hid (w1.heap.size < (w1.alloc (.cells Z 26)).heap.size) := hide (O1.out.lt rfl).2
          clear hmk T1 BA B1
          generalize (w1.alloc (.cells Z 26)) = w2 at *
          generalize w1.heap.size = g0 at *
          have S2 := hide (show Sc w2 w.heap.size (fun _ => 0) 0 p M (List.replicate p zrx) from ⟨by simp, fun j x h => by omega⟩)
          go_loopw [37] (fun iv wr => ∃ (k : Nat) (cur : List Rx), k ≤ p ∧ iv = .int .i64 (k : Int) ∧ Hid (Below w.heap.size w wr) ∧ Hid (Ow 26 er 3 wr w.heap.size (.slice (some ⟨g0, 0, none⟩) p p) cur) ∧ Hid (Sc wr w.heap.size (fun _ => 0) k p M cur) ∧ Hid (Tg wr w.heap.size (.slice A1 (m + 1) c1) d1 M)) (fun iv _ => p - (intOf iv).toNat)
          case atStart => exact ⟨0, _, Nat.zero_le _, rfl, B2, O1, S2, T2⟩
          case round =>
            obtain ⟨k, cur, hk, rfl, B, O, S, T⟩ := hrel
            by_cases hlt : k < p
            · have l0 : (0 : Int) ≤ (k : Int) := by omega
              have l1 : (k : Int) < (p : Int) := by omega
              go_wp2_with fail
              refine (whole_o wr 0 (by omega) (by omega)).mono ?_
              rintro e w5 ⟨z, rfl, hz, rz, bx⟩
              have B5 := hide (Below.step B.out B.out.size bx)
              have O5 := hide (O.out.step bx)
              have S5 := hide (S.out.step bx)
              have T5 := hide (T.out.step bx)
              have Z5 := hide ((rz.mono (B' := w.heap.size) B.out.size).more (M := M) M1.out)
              have HZ := hide (show z.r = 0 by rw [hz]; rfl)
              clear hz rz bx B O S T
              obtain ⟨y, hy⟩ := len_of (d := cur) (k := k) (by rw [S5.out.1]; exact hlt)
              obtain ⟨⟨e0, e1, e2⟩, f0, f1, f2⟩ := O5.out.cellsR hy
              have hg := only_putR w5 g0 (k * 3) (k * 3 + 1) (k * 3 + 2) (.bool z.s) (sv z.u) (sv z.t)
              have O6 := hide (O5.out.putR (i := k) (by rw [S5.out.1]; exact hlt) z)
              have S6 := hide (S5.out.put (lim' := k + 1) (val' := fun _ => 0) hlt HZ.out Z5.out (fun j h1 h2 => ⟨by omega, rfl⟩) hg (fun g e => O5.out.ot3 g (by rw [← e]; rfl)))
              have T6 := hide (T5.out.kept O5.out hg)
              have B6 := hide (show Below w.heap.size w _ from (B5.out.grown hg B5.out.size (fun g e => by injection e with e; subst e; exact (O5.out.lt rfl).1)))
              clear hy hg O5 S5 T5 Z5 B5
              go_wp2_with fail
              exact ⟨⟨k + 1, _, by omega, by go_num, B6, O6, S6, T6⟩, by simp [intOf]; omega⟩
            · obtain rfl : k = p := by omega
              have S0 := hide (show Sc wr w.heap.size (fun j => gsum (tms (d1.take 0)) (j : Int)) k k M cur from ⟨S.out.1, fun j x hj hx => S.out.2 j x hj hx⟩)
              have B0 := hide B.out
              have O0 := hide O.out
              have T0 := hide T.out
              clear S B O T B2 O1 S2 T2
              go_wp2_with fail
              obtain ⟨wo, hwo⟩ : ∃ wo, wo = wr := ⟨_, rfl⟩
              subst hwo
              go_loopw [47] (fun iv wr => ∃ (q : Nat) (cur : List Rx), q ≤ (m + 1) ∧ iv = .int .i64 (q : Int) ∧ Hid (Below w.heap.size w wr) ∧ Hid (Ow 26 er 3 wr w.heap.size (.slice (some ⟨g0, 0, none⟩) k k) cur) ∧ Hid (Sc wr w.heap.size (fun j => gsum (tms (d1.take q)) (j : Int)) k k M cur) ∧ Hid (Tg wr w.heap.size (.slice A1 (m + 1) c1) d1 M)) (fun iv _ => (m + 1) - (intOf iv).toNat)
              case atStart => exact ⟨0, _, Nat.zero_le _, rfl, B0, O0, S0, T0⟩
              case round =>
                obtain ⟨q, cur, hq, rfl, B, O, S, T⟩ := hrel
                by_cases hlt2 : q < (m + 1)
                · obtain ⟨t, ht⟩ := len_of (d := d1) (k := q) (by rw [← HM.out]; exact hlt2)
                  obtain ⟨tc, tx⟩ := t
                  have htm : (tms d1)[q]? = some (tc, tx.r) := by unfold tms; rw [List.getElem?_map, ht]; rfl
                  have hc0 : 0 ≤ tc := (F1.out.2 _ (List.mem_of_getElem? htm)).1
                  obtain ⟨cc, rfl⟩ : ∃ cc : Nat, tc = (cc : Int) := ⟨tc.toNat, by omega⟩
                  have hcp : cc < k := by have := NB.out _ (List.mem_of_getElem? ht); simp at this; omega
                  have FT := hide (show gsum (tms (d1.take q)) (cc : Int) = 0 by rw [tms_take]; exact fm_take F1.out htm)
                  have ET := hide (show tms (d1.take (q + 1)) = tms (d1.take q) ++ [((cc : Int), tx.r)] from tms_snoc ht)
                  obtain ⟨b, off, rfl, hb, hcs⟩ := T.out.tv.1.get ht
                  have c0 := hcs 0 _ rfl
                  have c1' := hcs 1 _ rfl
                  have c2 := hcs 2 _ rfl
                  have c3 := hcs 3 _ rfl
                  rw [Nat.add_zero] at c0
                  have RX := hide (T.out.2 _ (List.mem_of_getElem? ht))
                  have l0 : (0 : Int) ≤ (q : Int) := by omega
                  have l1 : (q : Int) < (((m + 1) : Nat) : Int) := by omega
                  have l2 : (0 : Int) ≤ (cc : Int) := by omega
                  have l3 : (cc : Int) < (k : Int) := by omega
                  have b8 := alloc_below wr (.cells #[.int .i64 (cc : Int), .bool tx.s, sv tx.u, sv tx.t] 63)
                  have BX := hide (box_cells (heap_alloc_new wr (.cells #[.int .i64 (cc : Int), .bool tx.s, sv tx.u, sv tx.t] 63)))
                  have B5 := hide (Below.step B.out B.out.size b8)
                  have O5 := hide (O.out.step b8)
                  have S5 := hide (S.out.step b8)
                  have T5 := hide (T.out.step b8)
                  have R5 := hide (RX.out.step b8)
                  obtain ⟨y, hy⟩ := len_of (d := cur) (k := cc) (by rw [S5.out.1]; exact hcp)
                  obtain ⟨⟨e0, e1, e2⟩, f0, f1, f2⟩ := O5.out.cellsR hy
                  obtain ⟨x0, x1, x2, x3⟩ := BX.out
                  have hg := only_putR (wr.alloc (.cells #[.int .i64 (cc : Int), .bool tx.s, sv tx.u, sv tx.t] 63)) g0 (cc * 3) (cc * 3 + 1) (cc * 3 + 2) (.bool tx.s) (sv tx.u) (sv tx.t)
                  have O6 := hide (O5.out.putR (i := cc) (by rw [S5.out.1]; exact hcp) tx)
                  have S6 := hide (S5.out.put (lim' := k) (val' := fun j => gsum (tms (d1.take (q + 1))) (j : Int)) hcp (show tx.r = gsum (tms (d1.take (q + 1))) (cc : Int) by rw [ET.out, gsum_append, FT.out, Rat.zero_add]; simp [gsum, Rat.add_zero]) R5.out (fun j h1 h2 => ⟨h1, by
                    show gsum (tms (d1.take (q + 1))) (j : Int) = gsum (tms (d1.take q)) (j : Int)
                    rw [ET.out, gsum_append]
                    have : ¬ ((cc : Int) = (j : Int)) := by omega
                    simp [gsum, this, Rat.add_zero]
                    try (intro h; omega)⟩) hg (fun g e => O5.out.ot3 g (by rw [← e]; rfl)))
                  have T6 := hide (T5.out.kept O5.out hg)
                  have B6 := hide (show Below w.heap.size w _ from (B5.out.grown hg B5.out.size (fun g e => by injection e with e; subst e; exact (O5.out.lt rfl).1)))
                  clear hy hg O5 S5 T5 R5 B5 BX hcs hb ht htm b8 O S T B RX
                  go_wp2_with fail
                  all_goals exact ⟨⟨q + 1, _, by omega, by go_num, B6, O6, S6, T6⟩, by simp [intOf]; omega⟩
                · obtain rfl : q = (m + 1) := by omega
                  have FIN := hide (show Fg wr w.heap.size (.slice (some ⟨g0, 0, none⟩) k k) cur M from ⟨O.out, fun x hx => by
                    obtain ⟨j, hj, rfl⟩ := List.mem_iff_getElem.1 hx
                    exact (S.out.2 j _ (by rw [← S.out.1]; exact hj) (List.getElem?_eq_getElem hj)).2⟩)
                  have VAL := hide (show ∀ (j : Nat) x, cur[j]? = some x → x.r = gsum (tms d) (j : Int) from fun j x hx => by
                    have hj : j < cur.length := (List.getElem?_eq_some_iff.1 hx).1
                    have h := (S.out.2 j x (by rw [← S.out.1]; exact hj) hx).1
                    rw [List.take_of_length_le (by rw [← HM.out]; exact Nat.le_refl _)] at h
                    rw [h]
                    exact G1.out _ (by omega))
                  have LEN := hide S.out.1
                  clear O S T S0 B0 O0 T0
                  go_wp2_with fail
                  go_ret2
                  exact ⟨B.out, .inr ⟨GOOD.out, _, cur, rfl, FIN.out, by rw [LEN.out], VAL.out⟩⟩
end Go.Proofs.YtajjpepjbflojaaGreat
