/-
  The document's own answer: words as a number.
-/
import Derived.Test.YtpeopcafafonkaaDoorRefH
import Derived.Deep.RegionHeld3
namespace Go.Proofs.YtpeopcafafonkaaDoor
open Go.RowKit Go.Proofs.YtpeopcafafonkaaDoor.Num
set_option linter.unusedVariables false
set_option maxRecDepth 100000

theorem cell_keep {W w' : World} {p : Addr} {v : Value} (hc : W.cell? p = some v) (hb : Below W.heap.size W w') : w'.cell? p = some v := (hb.cell (World.block_lt_of_cell? _ _ hc)).trans hc

theorem below_of_drew {B : Nat} {a w : World} (h : Below B a.drew w) : Below B a w := ⟨h.os, h.tape, h.output, h.size, h.block⟩
theorem of_mul {W : World} {ov half : Value} {P L : Nat} {p : Addr} {x : Value} (h1 : Ic W ov P L) (h2 : Ic W half 4294967296 3) (hc : W.cell? p = some x) (hL : L ≤ 400000000000) :
    Calls Tryd.prog 35 #[ov, half] W fun e w' => ∃ r, e = .returned r ∧ w'.cell? p = some x ∧ Ic w' r (P * 4294967296) (L + 3) ∧ Ic w' half 4294967296 3 ∧ Below W.heap.size W w' :=
  (imul h1.iw h2.iw hL (by omega)).mono fun e w' ⟨r, he, _, hi, hb⟩ => ⟨r, he, cell_keep hc hb, hi, h2.step hb, hb⟩
theorem of_small {W : World} {rv half : Value} {d P L : Nat} {p : Addr} {x : Value} (h1 : Ic W rv P L) (h2 : Ic W half 4294967296 3) (hc : W.cell? p = some x) (hd : d < 4294967296) :
    Calls Tryd.prog 75 #[.int .i64 (d : Int)] W fun e w' => ∃ r, e = .returned r ∧ w'.cell? p = some x ∧ Ic w' r d 3 ∧ Ic w' rv P L ∧ Ic w' half 4294967296 3 ∧ Below W.heap.size W w' :=
  (ismall W (by omega) (Nat.lt_trans hd (by decide +kernel))).mono fun e w' ⟨r, he, _, hi, hb⟩ => ⟨r, he, cell_keep hc hb, hi, h1.step hb, h2.step hb, hb⟩
theorem of_add {W : World} {rv sv half : Value} {d P L : Nat} {p : Addr} {x : Value} (h1 : Ic W rv P L) (h3 : Ic W sv d 3) (h2 : Ic W half 4294967296 3) (hc : W.cell? p = some x) (hL : 3 ≤ L) (hL2 : L ≤ 800000000000) :
    Calls Tryd.prog 30 #[rv, sv] W fun e w' => ∃ r, e = .returned r ∧ w'.cell? p = some x ∧ Own .i64 3 w' W.heap.size r (cn 10000 (P + d)) ∧ Ic w' r (P + d) (L + 1) ∧ Ic w' half 4294967296 3 ∧ Below W.heap.size W w' :=
  (iadd (K := L) h1.iw h3.iw hL2 (by omega) hL).mono fun e w' ⟨r, he, ho, hi, hb⟩ => ⟨r, he, cell_keep hc hb, ho, hi, h2.step hb, hb⟩

def OfRel (t : TypeId) (w : World) (n : Nat) (xs : List Nat) (half ov iv : Value) (wr : World) : Prop :=
  ∃ k : Nat, k ≤ n ∧ iv = .int .i64 ((k : Int) - 1) ∧ Own .i64 t wr w.heap.size ov (cn 10000 (vl Q (xs.drop k))) ∧ Ic wr half 4294967296 3 ∧ Below w.heap.size w wr

theorem len_words {n k : Nat} {xs : List Nat} (hx : xs.length = n) (dx : Dg Q xs) (hk : k ≤ n) : vl Q (xs.drop k) < 10000 ^ (5 * (n - k)) := by
  have h := vl_lt (dx.drop k)
  rw [List.length_drop, hx] at h
  refine Nat.lt_of_lt_of_le h ?_
  rw [Nat.pow_mul]
  exact Nat.pow_le_pow_left (by decide +kernel) _

theorem of_word {P x hi lo : Nat} (h1 : x / 4294967296 = hi) (h2 : x % 4294967296 = lo) : x + Q * P = (P * 4294967296 + hi) * 4294967296 + lo := by
  have hQ : Q = 4294967296 * 4294967296 := by decide +kernel
  rw [hQ, Nat.add_mul, Nat.mul_assoc P, Nat.mul_comm P]
  omega

set_option maxHeartbeats 4000000 in
theorem rof_any (A : Option Addr) (n c : Nat) (xs : List Nat) (w : World) (hx : Rd .u64 w w.heap.size A n xs) (dx : Dg Q xs) (hn : n ≤ 1000000000) :
    Calls Tryd.prog 24 #[.slice A n c] w (OwnRet .i64 3 w (cn 10000 (vl Q xs))) := by
  have Hx := hide hx
  have Dx := hide dx
  have e0 : Hid (vl Q (xs.drop n) = 0) := hide (by rw [List.drop_eq_nil_of_le (by have := hx.1; omega)]; rfl)
  clear hx dx
  go_enter Tryd.func24, Tryd.ntmps24
  go_wp2_with fail
  refine (half_new _).mono ?_
  rintro e w1 ⟨half, rfl, oh, ch, b1⟩
  have a0 : Below w.heap.size w (w.alloc (.cells #[] 3)) := (Below.refl _ _).alloc (Nat.le_refl _) _
  have start : OfRel 3 w n xs half (.slice (some ⟨w.heap.size, 0, none⟩) 0 0) (.int .i64 ((n : Int) - 1)) w1 :=
    ⟨n, Nat.le_refl _, rfl, by rw [e0.out, cn_zero]; exact (own_empty .i64 3 w w.heap.size (Nat.le_refl _)).below b1 (Nat.le_refl _), ch, a0.trans (b1.mono a0.size)⟩
  clear oh ch b1 a0 e0
  go_wp2_with fail
  go_loopw [3, 5] (fun ov iv wr => OfRel 3 w n xs half ov iv wr) (fun _ iv _ => (intOf iv + 1).toNat)
  case atStart => exact start
  case round =>
    clear start
    obtain ⟨k, hk, rfl, hown, hhalf, hbel⟩ := hrel
    rcases Nat.eq_zero_or_pos k with h0 | h0
    · subst h0
      rw [List.drop_zero] at hown
      clear Hx Dx hhalf
      go_wp2_with fail
      go_ret
      exact ⟨_, rfl, hown, hbel⟩
    · obtain ⟨j, rfl⟩ : ∃ j, k = j + 1 := ⟨k - 1, by omega⟩
      have ej : ((j + 1 : Nat) : Int) - 1 = (j : Int) := by omega
      rw [ej]
      obtain ⟨x, ex⟩ : ∃ x, Hid (xs.getD j 0 = x) := ⟨_, hide rfl⟩
      obtain ⟨P, hP⟩ : ∃ P, Hid (vl Q (xs.drop (j + 1)) = P) := ⟨_, hide rfl⟩
      have hx2 := Hx.out.below hbel (Nat.le_refl _)
      obtain ⟨b, o, rfl, hbb, hcx⟩ := hx2.at_ (show j < n by omega)
      rw [ex.out] at hcx
      have bx : x < Q := by rw [← ex.out]; exact Dx.out.getD Q_pos j
      obtain ⟨hi, hhi⟩ : ∃ hi, x / 4294967296 = hi := ⟨_, rfl⟩
      obtain ⟨lo, hlo⟩ : ∃ lo, x % 4294967296 = lo := ⟨_, rfl⟩
      have bQ : x < 18446744073709551616 := by unfold Q at bx; exact bx
      have bh : hi < 4294967296 := by omega
      have bl : lo < 4294967296 := by omega
      have ehi : (x : Int) / 4294967296 = (hi : Int) := by omega
      have elo : bits .and .u64 (x : Int) 4294967295 = (lo : Int) := by rw [← hlo]; exact Mul64.maskN x bQ
      have ewh : IntKind.i64.wrap (hi : Int) = (hi : Int) := IntWalk.i64_in _ (by omega)
      have ewl : IntKind.i64.wrap (lo : Int) = (lo : Int) := IntWalk.i64_in _ (by omega)
      have e2 : Hid (vl Q (xs.drop j) = (P * 4294967296 + hi) * 4294967296 + lo) := hide (by rw [vl_drop Q xs j, ex.out, hP.out]; exact of_word hhi hlo)
      have i1 : (j : Int) < (n : Int) := by omega
      have hPL := len_words Hx.out.1 Dx.out hk
      rw [hP.out] at hPL hown
      obtain ⟨L, hL⟩ : ∃ L, 5 * (n - (j + 1)) = L := ⟨_, rfl⟩
      have bL : L ≤ 5000000000 := by omega
      rw [hL] at hPL
      have IOh := hide (Ic.of hown hPL)
      have IH := hide hhalf
      have BEL := hide hbel
      clear hown hhalf hbel hx2 hPL hhi hlo bQ bx hL hP hbb
      go_wp2_with fail
      go_region_held3 (fun w' => w'.cell? ⟨b, o + j, none⟩ = some (.int .u64 (x : Int))) (first | exact hcx | assumption)
        (first
          | (go_at_call 35; refine (of_mul (by exact IOh.out) (by exact IH.out) (by exact hcx) (by omega)).mono ?_; rintro e w3 ⟨r, rfl, hc3, ir3, ih3, hb3⟩)
          | (go_at_call 75; refine (of_small (by exact ir3) (by exact ih3) (by exact hc3) bh).mono ?_; rintro e w4 ⟨s, rfl, hc4, is4, ir4, ih4, hb4⟩)
          | (go_at_call 30; refine (of_add (by exact ir4) (by exact is4) (by exact ih4) (by exact hc4) (by omega) (by omega)).mono ?_; rintro e w5 ⟨v5, rfl, hc5, ho5, io5, ih5, hb5⟩))
      have OB5 := hide hb5
      have B5 : Hid (Below wr.heap.size wr w5) := hide (below_of_drew ((hb3.trans (hb4.mono hb3.size)).trans (hb5.mono (Nat.le_trans hb3.size hb4.size))))
      have IO5 := hide io5
      have IH5 := hide ih5
      clear hb3 hb4 hb5 hc3 hc4 ir3 ih3 is4 ir4 ih4 ho5 io5 ih5 IOh IH
      go_wp2_with fail
      go_region_held3 (fun w' => w'.cell? ⟨b, o + j, none⟩ = some (.int .u64 (x : Int))) (first | exact hc5 | assumption)
        (first
          | (go_at_call 35; refine (of_mul (by exact IO5.out) (by exact IH5.out) (by exact hc5) (by omega)).mono ?_; rintro e w3 ⟨r, rfl, hc3, ir3, ih3, hb3⟩)
          | (go_at_call 75; refine (of_small (by exact ir3) (by exact ih3) (by exact hc3) bl).mono ?_; rintro e w4 ⟨s, rfl, hc4, is4, ir4, ih4, hb4⟩)
          | (go_at_call 30; refine (of_add (by exact ir4) (by exact is4) (by exact ih4) (by exact hc4) (by omega) (by omega)).mono ?_; rintro e w6 ⟨v6, rfl, hc6, ho6, io6, ih6, hb6⟩))
      have B6 : Below wr.heap.size wr w6 := B5.out.trans ((below_of_drew ((hb3.trans (hb4.mono hb3.size)).trans (hb6.mono (Nat.le_trans hb3.size hb4.size)))).mono B5.out.size)
      have fin : OfRel 3 w n xs half v6 (.int .i64 ((j : Int) - 1)) w6 := by
        refine ⟨j, by omega, rfl, ?_, ih6, BEL.out.trans (B6.mono BEL.out.size)⟩
        rw [e2.out]
        refine ho6.mono ?_
        have h1 := BEL.out.size
        have h2 := B5.out.size
        have h3 := hb3.size
        have h4 := hb4.size
        first | omega | (simp at h3; omega)
      clear hb3 hb4 hc3 hc4 ir3 ih3 is4 ir4 ih4 B6 hb6 ho6 io6 ih6 hc6 IO5 IH5 B5 OB5 BEL e2
      go_wp2_with fail
      go_roundw
      case rel => exact fin
      case measure => simp [intOf]
end Go.Proofs.YtpeopcafafonkaaDoor
