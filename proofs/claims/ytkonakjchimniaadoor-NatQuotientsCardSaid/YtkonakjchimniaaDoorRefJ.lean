/-
  The document's own answer: a number's decimal digits.
-/
import Derived.Test.YtkonakjchimniaaDoorRefI
import Derived.Test.YtkonakjchimniaaDoorText
namespace Go.Proofs.YtkonakjchimniaaDoor
open Go.RowKit Go.Proofs.YtkonakjchimniaaDoor.Num
set_option linter.unusedVariables false
set_option maxRecDepth 100000

def TxRel (t : TypeId) (w w1 : World) (m : Nat) (xs : List Nat) (bv iv : Value) (wr : World) : Prop :=
  ∃ (i : Nat) (ds : List Nat), i ≤ m ∧ iv = .int .i64 (i : Int) ∧ Hid (ds.length = 4 * i) ∧ Hid (Dg 10 ds) ∧ Hid (vl 10 ds = vl 10000 (xs.take i)) ∧ Own .u8 t wr w.heap.size bv (dch ds).reverse ∧
    Below w1.heap.size w1 wr ∧ Below w.heap.size w wr
def TyRel (t : TypeId) (w w1 : World) (x : Nat) (ds : List Nat) (bv nv kv : Value) (wr : World) : Prop :=
  ∃ (k g : Nat) (es : List Nat), k ≤ 4 ∧ kv = .int .i64 (k : Int) ∧ nv = .int .i64 (g : Int) ∧ g ≤ 9999 ∧ Hid (es.length = k) ∧ Hid (Dg 10 es) ∧ Hid (vl 10 es + 10 ^ k * g = x) ∧
    Own .u8 t wr w.heap.size bv (dch (ds ++ es)).reverse ∧ Below w1.heap.size w1 wr ∧ Below w.heap.size w wr

theorem places4 {i x : Nat} {ds es xs : List Nat} (hd : ds.length = 4 * i) (hv : vl 10 ds = vl 10000 (xs.take i)) (he : vl 10 es = x) (hx : xs.getD i 0 = x) : vl 10 (ds ++ es) = vl 10000 (xs.take (i + 1)) := by
  rw [vl_append, hd, hv, he, vl_take_succ, hx, Nat.pow_mul]

theorem rev_at (ds : List Nat) (j : Nat) (h : j < ds.length) : (dch ds).reverse.getD j 0 = ds.getD (ds.length - 1 - j) 0 + 48 := by
  simp only [List.getD_eq_getElem?_getD]
  rw [List.getElem?_reverse (by rw [dch_len]; exact h), dch_len]
  unfold dch
  rw [List.getElem?_map, List.getElem?_eq_getElem (by omega)]
  rfl
theorem take_at (ds : List Nat) (r j : Nat) (h : j < r) : (ds.take r).getD j 0 = ds.getD j 0 := by
  simp [List.getD_eq_getElem?_getD, h]
theorem tz_take_pos (ds : List Nat) (r : Nat) (h : r < ds.length) (hd : ds.getD r 0 ≠ 0) : tz (ds.take (r + 1)) = ds.take (r + 1) := by
  have h1 := tz_step_pos ds r h hd
  have h2 := tz_take (ds.take (r + 1))
  rw [h1, List.take_take, Nat.min_self] at h2
  exact h2
theorem tz_ne_zero {ds : List Nat} {X : Nat} (dd : Dg 10 ds) (h : vl 10 ds = X) : (tz ds = [] → X = 0) := by
  intro h1
  rw [← h, ← tz_vl, h1]; rfl

set_option maxHeartbeats 4000000 in
theorem rtext_any {w : World} {u : Value} {X L : Nat} (hu : Iw w u X L) (hL : L ≤ 100000000000) : Calls Tryd.prog 78 #[u] w (TextRet w X) := by
  obtain ⟨i0, hi, hz0, hz1, hz2⟩ := info_parts info_u8
  have HXL := hide hu.lt
  have U := hide hu
  clear hu
  go_enter Tryd.func78, Tryd.ntmps78
  go_wp2_with fail
  have a0 : Hid (Below w.heap.size w (w.alloc (.cells #[] 5))) := hide ((Below.refl _ _).alloc (Nat.le_refl _) _)
  refine (itrim (U.out.step a0.out) (by omega)).mono ?_
  rintro e w1 ⟨x0, rfl, ox, ⟨A, c, hx0, rx, hlx⟩, b1⟩
  subst hx0
  have start : TxRel 5 w w1 (cn 10000 X).length (cn 10000 X) (.slice (some ⟨w.heap.size, 0, none⟩) 0 0) (.int .i64 0) w1 :=
    ⟨0, [], Nat.zero_le _, rfl, hide rfl, hide Dg.nil, hide (by simp [vl]), (own_empty .u8 5 w w.heap.size (Nat.le_refl _)).below b1 (Nat.le_refl _), Below.refl _ _, a0.out.trans (b1.mono a0.out.size)⟩
  have hX : Hid (vl 10000 (cn 10000 X) = X) := hide (vl_cn B_two X)
  have Dx := hide (dg_cn B_two X)
  obtain ⟨xs, hxs⟩ : ∃ xs, cn 10000 X = xs := ⟨_, rfl⟩
  rw [hxs] at start rx hlx hX Dx ⊢
  obtain ⟨m, hm⟩ : ∃ m, xs.length = m := ⟨_, rfl⟩
  rw [hm] at start rx hlx ⊢
  have hmb : m ≤ 100000000000 := by omega
  have RX := hide rx
  clear U a0 ox b1 hlx rx hxs hm HXL
  go_wp2_with fail
  go_loopw [3, 5] (fun bv iv wr => TxRel 5 w w1 m xs bv iv wr) (fun _ iv _ => m - (intOf iv).toNat)
  case atStart => exact start
  case round =>
    obtain ⟨i, ds, hi', rfl, hdl, dd, hv, hown, hb1, hbel⟩ := hrel
    clear start
    by_cases hlt : i < m
    · obtain ⟨x, ex⟩ : ∃ x, Hid (xs.getD i 0 = x) := ⟨_, hide rfl⟩
      have bx : x ≤ 9999 := by have := Dx.out.getD (by omega) i; rw [ex.out] at this; omega
      have rx2 := RX.out.below hb1 (Nat.le_refl _)
      obtain ⟨b, o, rfl, hbb, hcx⟩ := rx2.at_ hlt
      rw [ex.out] at hcx
      have st : TyRel 5 w w1 x ds u3 (.int .i64 (x : Int)) (.int .i64 0) wr := ⟨0, x, [], by omega, rfl, rfl, bx, hide rfl, hide Dg.nil, hide (by simp [vl]), by rw [List.append_nil]; exact hown, hb1, hbel⟩
      clear hown hb1 hbel rx2 hbb
      go_wp2_with fail
      go_loopw [3, 6, 7] (fun bv nv kv wr => TyRel 5 w w1 x ds bv nv kv wr) (fun _ _ kv _ => 4 - (intOf kv).toNat)
      case atStart => exact st
      case round =>
        obtain ⟨k, g, es, hk, rfl, rfl, hg, hel, de, hev, hown, hb1, hbel⟩ := hrel
        clear st hcx
        by_cases hk4 : k < 4
        · obtain ⟨d, hd⟩ : ∃ d, g % 10 = d := ⟨_, rfl⟩
          obtain ⟨g2, hg2⟩ : ∃ g2, g / 10 = g2 := ⟨_, rfl⟩
          have er : Int.tmod (g : Int) 10 = (d : Int) := by rw [← hd]; exact (Int.ofNat_tmod g 10).symm
          have eq : Int.tdiv (g : Int) 10 = (g2 : Int) := by rw [← hg2]; exact (Int.ofNat_tdiv g 10).symm
          obtain ⟨y, hy⟩ : ∃ y, y = d + 48 := ⟨_, rfl⟩
          have e4 : (48 : Int) + (d : Int) = (y : Int) := by omega
          have hd9 : d ≤ 9 := by omega
          have hy57 : (y : Int) ≤ 57 := by omega
          have hg2b : g2 ≤ 9999 := by omega
          have hev2 : Hid (vl 10 (es ++ [d]) + 10 ^ (k + 1) * g2 = x) := hide (by
            rw [vl_snoc, hel.out, Nat.pow_succ, Nat.mul_assoc, ← hev.out, Nat.add_assoc, ← Nat.mul_add]
            congr 2
            omega)
          have hrev : Hid (y :: (dch (ds ++ es)).reverse = (dch (ds ++ (es ++ [d]))).reverse) := hide (by
            rw [← List.append_assoc, dch_append (ds ++ es), List.reverse_append, hy]; rfl)
          have hel2 : Hid ((es ++ [d]).length = k + 1) := hide (by simp [hel.out])
          have de2 : Hid (Dg 10 (es ++ [d])) := hide (de.out.append (Dg.cons (by omega) Dg.nil))
          have fin : ∀ v' w', Own .u8 5 w' wr.heap.size v' (y :: (dch (ds ++ es)).reverse) → Below wr.heap.size wr w' → TyRel 5 w w1 x ds v' (.int .i64 (g2 : Int)) (.int .i64 ((k + 1 : Nat) : Int)) w' := by
            intro v' w' ho hb
            rw [hrev.out] at ho
            exact ⟨k + 1, g2, es ++ [d], by omega, rfl, rfl, hg2b, hel2, de2, hev2, ho.mono hbel.size, hb1.trans (hb.mono hb1.size), hbel.trans (hb.mono hbel.size)⟩
          have Hown := hide hown
          have Hlen : Hid ((dch (ds ++ es)).reverse.length + 1 ≤ 17592186044416) := hide (by
            have h1 := hdl.out
            have h2 := hel.out
            rw [List.length_reverse, dch_len, List.length_append]; omega)
          have Fin := hide fin
          clear hown hb1 hbel hd hg2 hy hev hev2 hrev hel de hel2 de2 fin
          go_wp2_with (at_builtin; go_must (refine wpList_cons rfl (.tmp 29) (.tmp 30) 102 rfl Tryd.underlying102 hi hz0 hz1 hz2 rfl wr y _ _ (dch (ds ++ es)).reverse Hown.out rfl rfl Hlen.out (by decide) ?_); intro v' w' ho hb; have fin2 := Fin.out v' w' ho hb; clear ho hb)
          go_roundw
          case rel => exact fin2
          case measure => simp [intOf]; omega
        · obtain rfl : k = 4 := by omega
          have hg0 : g = 0 := by have := hev.out; omega
          subst hg0
          have he := hev.out
          rw [Nat.mul_zero, Nat.add_zero] at he
          have fin : TxRel 5 w w1 m xs u3 (.int .i64 ((i + 1 : Nat) : Int)) wr :=
            ⟨i + 1, ds ++ es, by omega, rfl, hide (by have h1 := hdl.out; have h2 := hel.out; rw [List.length_append]; omega), hide (dd.out.append de.out), hide (places4 hdl.out hv.out he ex.out), hown, hb1, hbel⟩
          clear he hev hel de hown hb1 hbel hv hdl dd
          go_wp2_with fail
          go_roundw
          case rel => exact fin
          case measure => simp [intOf]; omega
    · obtain rfl : i = m := by omega
      have hvX := hv.out
      rw [List.take_of_length_le (by have := RX.out.1; omega), hX.out] at hvX
      have BEL := hide hbel
      rcases hown with ⟨rfl, he⟩ | ⟨g, cap, C, rfl, hB, hr, hC, hcm⟩
      · have h0 : ds = [] := by
          have h1 : (dch ds).reverse.length = 0 := by rw [he]; rfl
          rw [List.length_reverse, dch_len] at h1
          exact List.eq_nil_of_length_eq_zero h1
        have hX0 : X = 0 := by rw [← hvX, h0]; rfl
        have fin : TextRet w X (.returned (.string ⟨#[48]⟩)) wr := ⟨by rw [hX0]; rfl, hbel⟩
        clear he h0 hX0 hvX hv hdl dd hb1 hbel RX hX Dx
        go_wp2_with fail
        go_loop [3] (fun bv => bv = .slice none 0 0) (fun _ => 0)
        case atStart => rfl
        case round =>
          subst hrel
          go_wp2_with fail
          go_ret
          exact fin
      · obtain ⟨cs, _, _, hlc, _⟩ := id hr
        rw [Nat.zero_add] at hlc
        have hcap : (dch ds).reverse.length ≤ cap := by omega
        obtain ⟨N, hN⟩ : ∃ N, ds.length = N := ⟨_, rfl⟩
        have hN2 : (dch ds).reverse.length = N := by rw [List.length_reverse, dch_len, hN]
        have hNb : N ≤ 400000000000 := by have := hdl.out; omega
        have hcm2 : cap ≤ 9223372036854775807 := by unfold maxLen at hcm; omega
        have HR := hide hr
        have e0 : Hid (tz (ds.take N) = tz ds) := hide (by rw [List.take_of_length_le (by omega)])
        have HN := hide hN
        have hHL : Hid ((dch ds).reverse.length = N) := hide hN2
        have VX := hide hvX
        rw [hN2] at hcap ⊢
        clear hlc hr hN hN2 hvX hv hdl hb1 hbel RX hX Dx hC hcm
        go_wp2_with fail
        go_loop [3] (fun bv => ∃ (r c' : Nat) (A' : Option Addr), bv = .slice A' r c' ∧ r ≤ c' ∧ c' ≤ cap ∧ r ≤ N ∧ Hid (0 < r → A' = some ⟨g, N - r, none⟩) ∧ Hid (tz (ds.take r) = tz ds)) (fun bv => lenV bv)
        case atStart => exact ⟨N, cap, _, rfl, hcap, Nat.le_refl _, Nat.le_refl _, hide (fun _ => by rw [Nat.sub_self]), e0⟩
        case round =>
          obtain ⟨r, c', A', rfl, hrc, hcc, hrN, hA, htz⟩ := hrel
          clear e0
          rcases Nat.eq_zero_or_pos r with h0 | h0
          · subst h0
            have hX0 : X = 0 := tz_ne_zero dd.out VX.out (by rw [← htz.out]; rfl)
            have fin : TextRet w X (.returned (.string ⟨#[48]⟩)) wr := ⟨by rw [hX0]; rfl, BEL.out⟩
            clear hX0 htz hA
            go_wp2_with fail
            go_ret
            exact fin
          · obtain ⟨r', rfl⟩ : ∃ r', r = r' + 1 := ⟨r - 1, by omega⟩
            obtain ⟨c2, rfl⟩ : ∃ c2, c' = c2 + 1 := ⟨c' - 1, by omega⟩
            obtain ⟨off, hoff⟩ : ∃ off, N - (r' + 1) = off := ⟨_, rfl⟩
            have hA2 := hA.out (by omega)
            rw [hoff] at hA2
            subst hA2
            obtain ⟨d, hd⟩ : ∃ d, ds.getD r' 0 = d := ⟨_, rfl⟩
            obtain ⟨y, hy⟩ : ∃ y, d + 48 = y := ⟨_, rfl⟩
            have hcell := HR.out.cell (j := off) (by rw [hHL.out]; omega)
            rw [rev_at ds off (by rw [HN.out]; omega), HN.out, show N - 1 - off = r' by omega, hd, hy, Nat.zero_add] at hcell
            by_cases hd0 : d = 0
            · obtain rfl : y = 48 := by omega
              have e2 : Hid (tz (ds.take r') = tz ds) := hide (by rw [← tz_step_zero ds r' (by rw [HN.out]; omega) (by rw [hd, hd0])]; exact htz.out)
              clear htz hA hd hy hd0
              rcases Nat.eq_zero_or_pos r' with h1 | h1
              · subst h1
                go_wp2_with fail
                go_round
                case rel => exact ⟨0, c2, _, rfl, by omega, by omega, by omega, hide (fun h => absurd h (by omega)), e2⟩
                case measure => simp [lenV]
              · have hc2 : ¬ (c2 + 1 = 1) := by omega
                go_wp2_with fail
                go_round
                case rel => exact ⟨r', c2, _, rfl, by omega, by omega, by omega, hide (fun _ => by simp <;> omega), e2⟩
                case measure => simp [lenV]
            · have hb : (((y : Int) != 48)) = true := by rw [bne_iff_ne]; omega
              have e3 : tz ds = ds.take (r' + 1) := by rw [← htz.out]; exact tz_take_pos ds r' (by rw [HN.out]; omega) (by rw [hd]; exact hd0)
              have hne : tz ds ≠ [] := by
                rw [e3]
                intro h
                have := congrArg List.length h
                rw [List.length_take, HN.out] at this
                simp at this
                omega
              have hl3 : (dch (tz ds)).reverse.length = r' + 1 := by rw [List.length_reverse, dch_len, e3, List.length_take, HN.out]; omega
              have hconv : (convert 102 9 (.slice (some ⟨g, off, none⟩) (r' + 1) (c2 + 1))).run Tryd.prog wr = .ok (.string ⟨(dtext X).toArray⟩) wr := by
                rw [← text_str dd.out VX.out hne]
                refine run_convert_bytes_arg (P := Tryd.prog) wr 102 5 Tryd.underlying102 Tryd.underlying5 g off _ (c2 + 1) _ (by rw [List.length_map, hl3]) (fun i hi => ?_) 9 Tryd.underlying9
                have h1 := HR.out.cell (j := off + i) (by rw [hHL.out]; omega)
                rw [rev_at ds (off + i) (by rw [HN.out]; omega), HN.out, Nat.zero_add] at h1
                rw [h1]
                have h2 := rev_at (tz ds) i (by rw [e3, List.length_take, HN.out]; omega)
                rw [e3, List.length_take, HN.out, Nat.min_eq_left (by omega), take_at _ _ _ (by omega), show r' + 1 - 1 - i = N - 1 - (off + i) by omega] at h2
                rw [← h2, ← e3]
                have h4 : i < (dch (tz ds)).reverse.length := by rw [hl3]; omega
                generalize (dch (tz ds)).reverse = zs at *
                simp [List.getD_eq_getElem?_getD, h4]
              have fin : TextRet w X (.returned (.string ⟨(dtext X).toArray⟩)) wr := ⟨rfl, BEL.out⟩
              clear e3 hne hl3 htz hA hd hy hd0 hoff
              go_wp2_with fail
              go_ret
              exact fin
end Go.Proofs.YtkonakjchimniaaDoor
