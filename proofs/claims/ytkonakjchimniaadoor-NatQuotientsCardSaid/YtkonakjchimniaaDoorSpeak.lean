/-
  The document's examples of layer 1 hold.
-/
import Derived.Test.YtkonakjchimniaaDoorText
import Derived.Test.YtkonakjchimniaaDoorWords
namespace Go.Proofs.YtkonakjchimniaaDoor
open Go.RowKit Go.Proofs.YtkonakjchimniaaDoor.Num
set_option linter.unusedVariables false
set_option maxRecDepth 100000

theorem Rd.here {k : IntKind} {w w' : World} {A : Option Addr} {n : Nat} {xs : List Nat} (h : Rd k w w.heap.size A n xs) (hb : Below w.heap.size w w') : Rd k w' w'.heap.size A n xs := (h.below hb (Nat.le_refl _)).more hb.size
theorem Rd.new1 {k : IntKind} {w : World} {A : Option Addr} {n : Nat} {xs : List Nat} (h : Rd k w w.heap.size A n xs) (o : Obj) : Rd k (w.alloc o) (w.alloc o).heap.size A n xs := (h.alloc (Nat.le_refl _) o).more (by simp)
theorem Rd.lit1 (k : IntKind) (w : World) (t : TypeId) (x : Nat) : Rd k (w.alloc (.cells #[.int k (x : Int)] t)) (w.alloc (.cells #[.int k (x : Int)] t)).heap.size (some ⟨w.heap.size, 0, none⟩) 1 [x] :=
  ⟨rfl, fun _ => ⟨w.heap.size, 0, rfl, by simp, fun j hj => by
    obtain rfl : j = 0 := by omega
    simp⟩⟩
theorem Rd.lit2 (k : IntKind) (w : World) (t : TypeId) (x y : Nat) : Rd k (w.alloc (.cells #[.int k (x : Int), .int k (y : Int)] t)) (w.alloc (.cells #[.int k (x : Int), .int k (y : Int)] t)).heap.size (some ⟨w.heap.size, 0, none⟩) 2 [x, y] :=
  ⟨rfl, fun _ => ⟨w.heap.size, 0, rfl, by simp, fun j hj => by
    match j, hj with
    | 0, _ => simp
    | 1, _ => simp⟩⟩
theorem Own.rd {k : IntKind} {e : TypeId} {w : World} {B : Nat} {v : Value} {xs : List Nat} (h : Own k e w B v xs) : ∃ A c, v = .slice A xs.length c ∧ Rd k w w.heap.size A xs.length xs ∧ xs.length ≤ c ∧ c ≤ maxLen := by
  obtain ⟨A, c, rfl, h1, h2, h3, _⟩ := h.form
  exact ⟨A, c, rfl, h3, h1, h2⟩

theorem cn_lit {B : Nat} (hB : 2 ≤ B) {n : Nat} {ds : List Nat} (hd : Dg B ds) (hv : vl B ds = n) (ht : tz ds = ds) : cn B n = ds := by rw [← hv, cn_vl hB hd, ht]
theorem dg_lit {B : Nat} {ds : List Nat} (h : ds.all (fun d => decide (d < B)) = true) : Dg B ds := fun d hd => by simpa using List.all_eq_true.1 h d hd

theorem ex_square : cn Q (18446744073709551615 * 18446744073709551615) = [1, 18446744073709551614] := cn_lit Q_two (dg_lit (by decide +kernel)) (by decide +kernel) (by decide)
theorem ex_quo : cn Q (7 / 2) = [3] := cn_lit Q_two (dg_lit (by decide +kernel)) (by decide +kernel) (by decide)
theorem ex_rem : cn Q (7 % 2) = [1] := cn_lit Q_two (dg_lit (by decide +kernel)) (by decide +kernel) (by decide)
theorem ex_gcd : cn Q (Nat.gcd 12 18) = [6] := cn_lit Q_two (dg_lit (by decide +kernel)) (by decide +kernel) (by decide)
def exText : List UInt8 := [49, 56, 52, 52, 54, 55, 52, 52, 48, 55, 51, 55, 48, 57, 53, 53, 49, 54, 49, 54]
theorem ex_text : dtext (vl Q [0, 1]) = exText := by
  have h : cn 10 (vl Q [0, 1]) = [6, 1, 6, 1, 5, 5, 9, 0, 7, 3, 7, 0, 4, 4, 7, 6, 4, 4, 8, 1] := cn_lit (by omega) (dg_lit (by decide +kernel)) (by decide +kernel) (by decide)
  unfold dtext
  rw [if_neg (by decide +kernel), h]
  rfl
theorem ex_parse : pcode exText = 0 ∧ cn Q (dval exText) = [0, 1] := by
  refine ⟨by decide +kernel, cn_lit Q_two (dg_lit (by decide +kernel)) (by decide +kernel) (by decide)⟩

/-! ### The calls of the examples, at lists just laid -/
section
variable (w : World)
theorem rd_pair (x y : Nat) : Rd .u64 ((w.alloc (.cells #[.int .u64 (x : Int)] 71)).alloc (.cells #[.int .u64 (y : Int)] 71)) ((w.alloc (.cells #[.int .u64 (x : Int)] 71)).alloc (.cells #[.int .u64 (y : Int)] 71)).heap.size (some ⟨w.heap.size, 0, none⟩) 1 [x] ∧
    Rd .u64 ((w.alloc (.cells #[.int .u64 (x : Int)] 71)).alloc (.cells #[.int .u64 (y : Int)] 71)) ((w.alloc (.cells #[.int .u64 (x : Int)] 71)).alloc (.cells #[.int .u64 (y : Int)] 71)).heap.size (some ⟨w.heap.size + 1, 0, none⟩) 1 [y] := by
  refine ⟨(Rd.lit1 .u64 w 71 x).new1 _, ?_⟩
  have h := Rd.lit1 .u64 (w.alloc (.cells #[.int .u64 (x : Int)] 71)) 71 y
  simpa using h
theorem below_two (o1 o2 : Obj) {w' : World} (h : Below ((w.alloc o1).alloc o2).heap.size ((w.alloc o1).alloc o2) w') : Below w.heap.size w w' :=
  (((Below.refl w.heap.size w).alloc (Nat.le_refl _) o1).alloc (by simp) o2).trans (h.mono (by simp; omega))

theorem mul_lits (x y : Nat) (hx : x < Q) (hy : y < Q) {zs : List Nat} (hz : cn Q (x * y) = zs) :
    Calls Tryd.prog 22 #[.slice (some ⟨w.heap.size, 0, none⟩) 1 1, .slice (some ⟨w.heap.size + 1, 0, none⟩) 1 1] ((w.alloc (.cells #[.int .u64 (x : Int)] 71)).alloc (.cells #[.int .u64 (y : Int)] 71))
      fun e w' => ∃ v, e = .returned v ∧ Own .u64 71 w' w.heap.size v zs ∧ Below w.heap.size w w' := by
  obtain ⟨h1, h2⟩ := rd_pair w x y
  have h := mul_any _ _ 1 1 1 1 [x] [y] _ h1 h2 (Dg.cons hx Dg.nil) (Dg.cons hy Dg.nil) (by omega) (by simp [maxLen]) (by omega) (by simp [maxLen]) (by omega) (by omega)
  refine h.mono fun e w' ⟨v, he, ho, hb⟩ => ⟨v, he, ?_, below_two w _ _ hb⟩
  simp only [vl, Nat.mul_zero, Nat.add_zero] at ho
  rw [hz] at ho
  exact ho.mono (by simp; omega)
theorem gcd_lits (x y : Nat) (hx : x < Q) (hy : y < Q) {zs : List Nat} (hz : cn Q (Nat.gcd x y) = zs) :
    Calls Tryd.prog 14 #[.slice (some ⟨w.heap.size, 0, none⟩) 1 1, .slice (some ⟨w.heap.size + 1, 0, none⟩) 1 1] ((w.alloc (.cells #[.int .u64 (x : Int)] 71)).alloc (.cells #[.int .u64 (y : Int)] 71))
      fun e w' => ∃ v, e = .returned v ∧ Own .u64 71 w' w.heap.size v zs ∧ Below w.heap.size w w' := by
  obtain ⟨h1, h2⟩ := rd_pair w x y
  have h := gcd_short _ _ 1 1 1 1 [x] [y] _ h1 h2 (Dg.cons hx Dg.nil) (Dg.cons hy Dg.nil) (by omega) (by simp [maxLen]) (by omega) (by simp [maxLen]) (by omega) (by omega) (by simp [vl]; omega)
  refine h.mono fun e w' ⟨v, he, ho, hb⟩ => ⟨v, he, ?_, below_two w _ _ hb⟩
  simp only [vl, Nat.mul_zero, Nat.add_zero] at ho
  rw [hz] at ho
  exact ho.mono (by simp; omega)
theorem div_lits (x y : Nat) (hx : x < Q) (hy : y < Q) (hx0 : x ≠ 0) (hy0 : y ≠ 0) {zs rs : List Nat} (hz : cn Q (x / y) = zs) (hr : cn Q (x % y) = rs) :
    Calls Tryd.prog 13 #[.slice (some ⟨w.heap.size, 0, none⟩) 1 1, .slice (some ⟨w.heap.size + 1, 0, none⟩) 1 1] ((w.alloc (.cells #[.int .u64 (x : Int)] 71)).alloc (.cells #[.int .u64 (y : Int)] 71))
      fun e w' => ∃ q r, e = .returned (.tuple #[q, r, .int .i64 0]) ∧ Own .u64 71 w' w.heap.size q zs ∧ Own .u64 71 w' w.heap.size r rs ∧ Below w.heap.size w w' := by
  obtain ⟨h1, h2⟩ := rd_pair w x y
  have h := divmod_word _ _ 1 1 1 1 [x] [y] _ h1 h2 (Dg.cons hx Dg.nil) (Dg.cons hy Dg.nil) (by omega) (by simp [maxLen]) (by omega) (by simp [maxLen]) (by omega) (by simp [tz, hy0]) (by simp [tz, hx0])
  simp only [vl, Nat.mul_zero, Nat.add_zero] at h
  refine h.mono fun e w' ⟨_, h2, hb⟩ => ?_
  obtain ⟨q, r, he, hq, hrr, _⟩ := h2 (by omega)
  rw [hz] at hq
  rw [hr] at hrr
  exact ⟨q, r, he, hq.mono (by simp; omega), hrr.mono (by simp; omega), below_two w _ _ hb⟩
/-- A list of the call's own held against one just laid. -/
theorem same_one {B : Nat} {v : Value} {zs : List Nat} (h : Own .u64 71 w B v zs) (x : Nat) (hz : zs = [x]) :
    Calls Tryd.prog 16 #[v, .slice (some ⟨w.heap.size, 0, none⟩) 1 1] (w.alloc (.cells #[.int .u64 (x : Int)] 71)) fun e w' => e = .returned (.bool true) ∧ Below w.heap.size w w' := by
  obtain ⟨A, c, rfl, hr, hc1, hc2⟩ := h.rd
  have hs := same_any _ _ A (some ⟨w.heap.size, 0, none⟩) zs.length c 1 1 zs [x] _ (hr.new1 (.cells #[.int .u64 (x : Int)] 71)) (Rd.lit1 .u64 w 71 x) (by omega) (by simp [maxLen])
  refine hs.mono fun e w' ⟨he, m, hm⟩ => ⟨by rw [he, sameB_true hz], ?_⟩
  rw [hm]
  exact below_drewN ((Below.refl _ _).alloc (Nat.le_refl _) _) m
theorem same_two {B : Nat} {v : Value} {zs : List Nat} (h : Own .u64 71 w B v zs) (x y : Nat) (hz : zs = [x, y]) :
    Calls Tryd.prog 16 #[v, .slice (some ⟨w.heap.size, 0, none⟩) 2 2] (w.alloc (.cells #[.int .u64 (x : Int), .int .u64 (y : Int)] 71)) fun e w' => e = .returned (.bool true) ∧ Below w.heap.size w w' := by
  obtain ⟨A, c, rfl, hr, hc1, hc2⟩ := h.rd
  have hs := same_any _ _ A (some ⟨w.heap.size, 0, none⟩) zs.length c 2 2 zs [x, y] _ (hr.new1 (.cells #[.int .u64 (x : Int), .int .u64 (y : Int)] 71)) (Rd.lit2 .u64 w 71 x y) (by omega) (by simp [maxLen])
  refine hs.mono fun e w' ⟨he, m, hm⟩ => ⟨by rw [he, sameB_true hz], ?_⟩
  rw [hm]
  exact below_drewN ((Below.refl _ _).alloc (Nat.le_refl _) _) m
theorem text_lits (x y : Nat) (hx : x < Q) (hy : y < Q) {l : List UInt8} (hl : dtext (vl Q [x, y]) = l) :
    Calls Tryd.prog 49 #[.slice (some ⟨w.heap.size, 0, none⟩) 2 2] (w.alloc (.cells #[.int .u64 (x : Int), .int .u64 (y : Int)] 71)) fun e w' => e = .returned (.string ⟨l.toArray⟩) ∧ Below w.heap.size w w' := by
  have h := text_any (some ⟨w.heap.size, 0, none⟩) 2 2 [x, y] _ (Rd.lit2 .u64 w 71 x y) (Dg.cons hx (Dg.cons hy Dg.nil)) (by omega) (by simp [maxLen]) (by omega)
  refine h.mono fun e w' ⟨he, hb⟩ => ⟨by rw [he, hl], ?_⟩
  exact ((Below.refl w.heap.size w).alloc (Nat.le_refl _) _).trans (hb.mono (by simp))
end

theorem ex_mul (w : World) : Calls Tryd.prog 22 #[.slice (some ⟨w.heap.size, 0, none⟩) 1 1, .slice (some ⟨w.heap.size + 1, 0, none⟩) 1 1] ((w.alloc (.cells #[.int .u64 18446744073709551615] 71)).alloc (.cells #[.int .u64 18446744073709551615] 71))
      fun e w' => ∃ v, e = .returned v ∧ Own .u64 71 w' w.heap.size v [1, 18446744073709551614] ∧ Below w.heap.size w w' := mul_lits w 18446744073709551615 18446744073709551615 (by decide +kernel) (by decide +kernel) ex_square
theorem ex_div (w : World) : Calls Tryd.prog 13 #[.slice (some ⟨w.heap.size, 0, none⟩) 1 1, .slice (some ⟨w.heap.size + 1, 0, none⟩) 1 1] ((w.alloc (.cells #[.int .u64 7] 71)).alloc (.cells #[.int .u64 2] 71))
      fun e w' => ∃ q r, e = .returned (.tuple #[q, r, .int .i64 0]) ∧ Own .u64 71 w' w.heap.size q [3] ∧ Own .u64 71 w' w.heap.size r [1] ∧ Below w.heap.size w w' := div_lits w 7 2 (by decide +kernel) (by decide +kernel) (by decide) (by decide) ex_quo ex_rem
theorem ex_gcdc (w : World) : Calls Tryd.prog 14 #[.slice (some ⟨w.heap.size, 0, none⟩) 1 1, .slice (some ⟨w.heap.size + 1, 0, none⟩) 1 1] ((w.alloc (.cells #[.int .u64 12] 71)).alloc (.cells #[.int .u64 18] 71))
      fun e w' => ∃ v, e = .returned v ∧ Own .u64 71 w' w.heap.size v [6] ∧ Below w.heap.size w w' := gcd_lits w 12 18 (by decide +kernel) (by decide +kernel) ex_gcd
theorem ex_parsec (w : World) : Calls Tryd.prog 48 #[.string ⟨exText.toArray⟩] w fun e w' => ∃ v, e = .returned (.tuple #[v, .int .i64 0]) ∧ Own .u64 71 w' w.heap.size v [0, 1] ∧ Below w.heap.size w w' := by
  refine (parse_any ⟨exText.toArray⟩ w (by decide)).mono fun e w' ⟨_, h, hb⟩ => ?_
  obtain ⟨v, he, ho⟩ := h ex_parse.1
  have h2 : cn Q (dval exText) = [0, 1] := ex_parse.2
  rw [show (⟨exText.toArray⟩ : ByteArray).data.toList = exText from rfl, h2] at ho
  exact ⟨v, he, ho, hb⟩
theorem ex_textc (w : World) : Calls Tryd.prog 49 #[.slice (some ⟨w.heap.size, 0, none⟩) 2 2] (w.alloc (.cells #[.int .u64 0, .int .u64 1] 71)) fun e w' => e = .returned (.string ⟨exText.toArray⟩) ∧ Below w.heap.size w w' :=
  text_lits w 0 1 (by decide +kernel) (by decide +kernel) ex_text
theorem ex_same_sq (w : World) {B : Nat} {v : Value} (h : Own .u64 71 w B v [1, 18446744073709551614]) : Calls Tryd.prog 16 #[v, .slice (some ⟨w.heap.size, 0, none⟩) 2 2] (w.alloc (.cells #[.int .u64 1, .int .u64 18446744073709551614] 71)) fun e w' => e = .returned (.bool true) ∧ Below w.heap.size w w' :=
  same_two w h 1 18446744073709551614 rfl
theorem ex_same_01 (w : World) {B : Nat} {v : Value} (h : Own .u64 71 w B v [0, 1]) : Calls Tryd.prog 16 #[v, .slice (some ⟨w.heap.size, 0, none⟩) 2 2] (w.alloc (.cells #[.int .u64 0, .int .u64 1] 71)) fun e w' => e = .returned (.bool true) ∧ Below w.heap.size w w' :=
  same_two w h 0 1 rfl
theorem ex_same_3 (w : World) {B : Nat} {v : Value} (h : Own .u64 71 w B v [3]) : Calls Tryd.prog 16 #[v, .slice (some ⟨w.heap.size, 0, none⟩) 1 1] (w.alloc (.cells #[.int .u64 3] 71)) fun e w' => e = .returned (.bool true) ∧ Below w.heap.size w w' := same_one w h 3 rfl
theorem ex_same_1 (w : World) {B : Nat} {v : Value} (h : Own .u64 71 w B v [1]) : Calls Tryd.prog 16 #[v, .slice (some ⟨w.heap.size, 0, none⟩) 1 1] (w.alloc (.cells #[.int .u64 1] 71)) fun e w' => e = .returned (.bool true) ∧ Below w.heap.size w w' := same_one w h 1 rfl
theorem ex_same_6 (w : World) {B : Nat} {v : Value} (h : Own .u64 71 w B v [6]) : Calls Tryd.prog 16 #[v, .slice (some ⟨w.heap.size, 0, none⟩) 1 1] (w.alloc (.cells #[.int .u64 6] 71)) fun e w' => e = .returned (.bool true) ∧ Below w.heap.size w w' := same_one w h 6 rfl

theorem Own.step {k : IntKind} {e : TypeId} {w w' : World} {B : Nat} {v : Value} {xs : List Nat} (h : Own k e w B v xs) (hb : Below w.heap.size w w') : Own k e w' B v xs := h.below hb (Nat.le_refl _)

set_option maxHeartbeats 4000000 in
theorem speaks_true (w : World) : Calls Tryd.prog 11 #[] w fun e w' => e = .returned (.bool true) ∧ Below w.heap.size w w' := by
  go_enter Tryd.func11, Tryd.ntmps11
  go_wp2_with fail
  refine (ex_mul w).mono ?_
  rintro e w1 ⟨v1, rfl, o1, b1⟩
  have B1 := hide b1
  have O1 := hide o1
  clear b1 o1
  go_wp2_with fail
  refine (ex_div w1).mono ?_
  rintro e w2 ⟨q, r, rfl, oq, orr, b2⟩
  have O1 := hide (O1.out.step b2)
  have B1 := hide (Below.step B1.out B1.out.size b2)
  have OQ := hide oq
  have OR := hide orr
  clear oq orr b2
  go_wp2_with fail
  refine (ex_parsec w2).mono ?_
  rintro e w3 ⟨v5, rfl, o5, b3⟩
  have O1 := hide (O1.out.step b3)
  have OQ := hide (OQ.out.step b3)
  have OR := hide (OR.out.step b3)
  have B1 := hide (Below.step B1.out B1.out.size b3)
  have O5 := hide o5
  clear o5 b3
  go_wp2_with fail
  refine (ex_same_sq w3 O1.out).mono ?_
  rintro e w4 ⟨rfl, b4⟩
  have OQ := hide (OQ.out.step b4)
  have OR := hide (OR.out.step b4)
  have O5 := hide (O5.out.step b4)
  have B1 := hide (Below.step B1.out B1.out.size b4)
  clear b4
  go_wp2_with fail
  refine (ex_textc w4).mono ?_
  rintro e w5 ⟨rfl, b5⟩
  have OQ := hide (OQ.out.step b5)
  have OR := hide (OR.out.step b5)
  have O5 := hide (O5.out.step b5)
  have B1 := hide (Below.step B1.out B1.out.size b5)
  clear b5
  go_wp2_with fail
  refine (ex_same_3 w5 OQ.out).mono ?_
  rintro e w6 ⟨rfl, b6⟩
  have OR := hide (OR.out.step b6)
  have O5 := hide (O5.out.step b6)
  have B1 := hide (Below.step B1.out B1.out.size b6)
  clear b6
  go_wp2_with fail
  refine (ex_same_1 w6 OR.out).mono ?_
  rintro e w7 ⟨rfl, b7⟩
  have O5 := hide (O5.out.step b7)
  have B1 := hide (Below.step B1.out B1.out.size b7)
  clear b7
  go_wp2_with fail
  refine (ex_gcdc w7).mono ?_
  rintro e w8 ⟨v8, rfl, o8, b8⟩
  have O5 := hide (O5.out.step b8)
  have B1 := hide (Below.step B1.out B1.out.size b8)
  have O8 := hide o8
  clear b8 o8
  go_wp2_with fail
  refine (ex_same_6 w8 O8.out).mono ?_
  rintro e w9 ⟨rfl, b9⟩
  have O5 := hide (O5.out.step b9)
  have B1 := hide (Below.step B1.out B1.out.size b9)
  clear b9
  go_wp2_with fail
  refine (ex_same_01 w9 O5.out).mono ?_
  rintro e w10 ⟨rfl, b10⟩
  have B1 := hide (Below.step B1.out B1.out.size b10)
  clear b10
  go_wp2_with fail
  go_ret
  exact ⟨rfl, B1.out⟩

end Go.Proofs.YtkonakjchimniaaDoor
