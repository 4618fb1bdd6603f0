/-
  The text of a number, and that it is read again.
-/
import Derived.Test.YtkonakjchimniaaDoorLaw
import Derived.Test.YtkonakjchimniaaDoorRefJ
namespace Go.Proofs.YtkonakjchimniaaDoor
open Go.RowKit Go.Proofs.YtkonakjchimniaaDoor.Num
set_option linter.unusedVariables false
set_option maxRecDepth 100000

/-! ### What the digits of a number are as a text -/
theorem u8_digit (d : Nat) (h : d < 10) : (UInt8.ofNat (d + 48)).toNat = d + 48 := by
  have : ∀ e : Fin 10, (UInt8.ofNat (e.val + 48)).toNat = e.val + 48 := by decide
  exact this ⟨d, h⟩
theorem dval_rev : ∀ (ds : List Nat), Dg 10 ds → dval ((ds.map fun d => UInt8.ofNat (d + 48)).reverse) = vl 10 ds
  | [], _ => rfl
  | d :: ds, h => by
    rw [List.map_cons, List.reverse_cons, dval_snoc, dval_rev ds h.tail, u8_digit d h.head]
    simp only [vl]
    omega
theorem dval_dtext (n : Nat) : dval (dtext n) = n := by
  unfold dtext
  split
  · rename_i h; rw [h]; decide
  · rw [dval_rev _ (dg_cn (by omega) n), vl_cn (by omega)]
theorem allDig_dtext (n : Nat) : allDig (dtext n) = true := by
  unfold dtext
  split
  · decide
  · unfold allDig
    rw [List.all_eq_true]
    intro b hb
    rw [List.mem_reverse, List.mem_map] at hb
    obtain ⟨d, hd, rfl⟩ := hb
    have h := dg_cn (B := 10) (by omega) n d hd
    rw [u8_digit d h]
    simp; omega
theorem dtext_ne (n : Nat) : dtext n ≠ [] := by
  unfold dtext
  split
  · simp
  · rename_i h
    intro h1
    rw [List.reverse_eq_nil_iff, List.map_eq_nil_iff] at h1
    exact h ((cn_eq_nil (by omega)).1 h1)
theorem dtext_head (n : Nat) (h : n ≠ 0) (b : UInt8) (l : List UInt8) (e : dtext n = b :: l) : b.toNat ≠ 48 := by
  unfold dtext at e
  rw [if_neg h] at e
  have hne : cn 10 n ≠ [] := fun h1 => h ((cn_eq_nil (by omega)).1 h1)
  have hl := (tz_eq_self_iff (cn 10 n)).1 (tz_cn (by omega) n) _ (List.getLast?_eq_some_getLast hne)
  have hd := dg_cn (B := 10) (by omega) n _ (List.getLast_mem hne)
  have h2 : (cn 10 n) = (cn 10 n).dropLast ++ [(cn 10 n).getLast hne] := (List.dropLast_concat_getLast hne).symm
  rw [h2, List.map_append, List.reverse_append] at e
  simp only [List.map_cons, List.map_nil, List.reverse_cons, List.reverse_nil, List.nil_append, List.cons_append] at e
  injection e with e1 _
  rw [← e1, u8_digit _ hd]
  omega
theorem pcode_dtext (n : Nat) : pcode (dtext n) = if 200 < (dtext n).length then 1 else 0 := by
  unfold pcode
  rw [if_neg (by simp [dtext_ne, allDig_dtext])]
/-- The text of a number. -/
def Tx (S : ByteArray) (n : Nat) : Prop := S.data.toList = dtext n
theorem Tx.of (n : Nat) : Tx ⟨(dtext n).toArray⟩ n := by unfold Tx; simp
theorem Tx.eq {S : ByteArray} {n : Nat} (h : Tx S n) : (⟨(dtext n).toArray⟩ : ByteArray) = S := by
  unfold Tx at h
  cases S with
  | mk d => rw [← h]
theorem text_s {w : World} {u : Value} {x L : Nat} {S : ByteArray} (hu : Nw w u x L) (hS : Tx S x) (hL : L ≤ 1000000000) :
    Calls Tryd.prog 49 #[u] w fun e w' => e = .returned (.string S) ∧ Below w.heap.size w w' := by
  obtain ⟨A, n, c, xs, rfl, hx, dx, h1, h2, rfl, h3⟩ := hu
  exact (text_any A n c xs w hx dx h1 h2 (by omega)).mono fun e w' ⟨he, hb⟩ => ⟨by rw [he, hS.eq], hb⟩
theorem rtext_s {w : World} {u : Value} {x L : Nat} {S : ByteArray} (hu : Iw w u x L) (hS : Tx S x) (hL : L ≤ 100000000000) :
    Calls Tryd.prog 78 #[u] w fun e w' => e = .returned (.string S) ∧ Below w.heap.size w w' :=
  (rtext_any hu hL).mono fun e w' ⟨he, hb⟩ => ⟨by rw [he, hS.eq], hb⟩
theorem parse_long {w : World} {x : Nat} {S : ByteArray} (hS : Tx S x) (hl : 200 < S.size) (hm : S.size ≤ 9223372036854775807) :
    Calls Tryd.prog 48 #[.string S] w fun e w' => e = .returned (.tuple #[.slice none 0 0, .int .i64 1]) ∧ Below w.heap.size w w' := by
  have hc : pcode S.data.toList = 1 := by
    rw [show S.data.toList = dtext x from hS, pcode_dtext, if_pos]
    rw [← show S.data.toList = dtext x from hS, Array.length_toList]; exact hl
  refine (parse_any S w hm).mono fun e w' ⟨h1, _, hb⟩ => ⟨?_, hb⟩
  have h := h1 (by rw [hc]; omega)
  rw [hc] at h
  exact h
theorem parse_short {w : World} {x L : Nat} {S : ByteArray} (hS : Tx S x) (hl : S.size ≤ 200) (hL : x < Q ^ L) :
    Calls Tryd.prog 48 #[.string S] w fun e w' => ∃ v, e = .returned (.tuple #[v, .int .i64 0]) ∧ Own .u64 71 w' w.heap.size v (cn Q x) ∧ Cw w' v x L ∧ Below w.heap.size w w' := by
  have hc : pcode S.data.toList = 0 := by
    rw [show S.data.toList = dtext x from hS, pcode_dtext, if_neg]
    rw [← show S.data.toList = dtext x from hS, Array.length_toList]
    show ¬ 200 < S.size
    omega
  refine (parse_any S w (by omega)).mono fun e w' ⟨_, h2, hb⟩ => ?_
  obtain ⟨v, he, ho⟩ := h2 hc
  rw [show S.data.toList = dtext x from hS, dval_dtext] at ho
  exact ⟨v, he, ho, Cw.of ho hL, hb⟩
theorem ntrim_n {w : World} {u : Value} {x L : Nat} (hu : Nw w u x L) (hL : L ≤ 17592186044000) :
    Calls Tryd.prog 21 #[u] w fun e w' => ∃ r, e = .returned r ∧ Own .u64 71 w' w.heap.size r (cn Q x) ∧ Cw w' r x L ∧ Below w.heap.size w w' := by
  have hx := hu.lt
  obtain ⟨A, n, c, xs, rfl, hr, dx, h1, h2, rfl, h3⟩ := hu
  exact (trim_any A n c xs w hr dx h1 h2 (by omega)).mono fun e w' ⟨r, he, ho, hb⟩ => ⟨r, he, ho, Cw.of ho hx, hb⟩
/-- The digits of a number of at most 90 words are no more than 1800. -/
theorem dtext_len {n L : Nat} (h : n < Q ^ L) : (dtext n).length ≤ 20 * L + 1 := by
  unfold dtext
  split
  · simp
  · rw [List.length_reverse, List.length_map]
    have h2 : Q ^ L ≤ (10 ^ 20) ^ L := Nat.pow_le_pow_left (by unfold Q; omega) L
    rw [← Nat.pow_mul] at h2
    have := cn_length_le (B := 10) (by omega) (Nat.lt_of_lt_of_le h h2)
    omega
end Go.Proofs.YtkonakjchimniaaDoor
