/-
  The words of a line of plain bytes; lines written anew: no function of the program here.
-/
import Derived.Laws.RangeAny
import Derived.Test.YtinbeodihhjfmaaFld1
namespace Go.Proofs.Ytinbeodihhjfmaa
open Go
set_option linter.unusedVariables false
set_option linter.unusedSimpArgs false
set_option maxRecDepth 100000

/-- The words of a list of bytes. -/
def toks : Option Bs → Bs → List Bs
  | none, [] => []
  | some c, [] => [c]
  | none, b :: r => if blk b.toNat then toks none r else toks (some [b]) r
  | some c, b :: r => if blk b.toNat then c :: toks none r else toks (some (c ++ [b])) r
theorem ba_at (x : Bs) (k : Nat) (h : k < x.length) : ∃ h' : k < (ba x).size, (ba x)[k]'h' = x[k] := by
  have hs : (ba x).size = x.length := by show x.toArray.size = _; simp
  refine ⟨by omega, ?_⟩
  show x.toArray[k]'_ = _
  simp
theorem dec_low (x : Bs) (p r : Bs) (b : UInt8) (hx : x = p ++ b :: r) (hb : b.toNat < 128) : Utf8.decode (ba x) p.length = (b.toNat, 1) := by
  have hk : p.length < x.length := by rw [hx]; simp
  obtain ⟨h1, h2⟩ := ba_at x p.length hk
  have h3 : x[p.length] = b := by subst hx; simp
  have := decode_ascii (ba x) p.length h1 (by rw [h2, h3]; exact hb)
  rw [this, h2, h3]
theorem ext_ba (p r : Bs) (a : Nat) (h : a ≤ p.length) : (ba (p ++ r)).extract a p.length = ba (p.drop a) := by
  apply ByteArray.ext
  rw [ByteArray.data_extract]
  apply Array.ext'
  simp [List.take_append, List.drop_append, List.extract_eq_take_drop, List.take_of_length_le, Nat.sub_eq_zero_of_le h]
theorem spans_toks (x : Bs) (hx : ∀ b ∈ x, b.toNat < 128) : ∀ (r p : Bs) (f : Nat) (st : Option Nat) (acc : List (Nat × Nat)), x = p ++ r → r.length ≤ f → (∀ a, st = some a → a ≤ p.length) →
    (Lib.closeSpans (ba x) (Lib.spansFromP blk (ba x) f p.length st acc)).map (fun y => (ba x).extract y.1 y.2) = acc.map (fun y => (ba x).extract y.1 y.2) ++ (toks (st.map fun a => p.drop a) r).map ba
  | [], p, f, st, acc, e, hf, hst => by
    have hs : (ba x).size = x.length := by show x.toArray.size = _; simp
    have hp : p.length = x.length := by rw [e]; simp
    rw [Lib.spansFromP_end blk (ba x) f p.length st acc (by omega)]
    cases st with
    | none => simp [Lib.closeSpans, toks]
    | some a =>
      have h2 := hst a rfl
      have h3 := ext_ba p [] a h2
      simp only [Lib.closeSpans, List.map_append, List.map_cons, List.map_nil, Option.map_some, toks, hs, ← hp]
      rw [e, h3]
  | b :: r, p, 0, st, acc, e, hf, hst => by simp at hf
  | b :: r, p, f + 1, st, acc, e, hf, hst => by
    have hs : (ba x).size = x.length := by show x.toArray.size = _; simp
    have hb : b.toNat < 128 := hx b (by rw [e]; simp)
    have hd := dec_low x p r b e hb
    have hl : p.length < (ba x).size := by rw [hs, e]; simp
    have e2 : x = (p ++ [b]) ++ r := by rw [e]; simp
    have hl2 : (p ++ [b]).length = p.length + 1 := by simp
    have ih := spans_toks x hx r (p ++ [b]) f
    rw [hl2] at ih
    unfold Lib.spansFromP
    rw [if_pos hl, hd]
    have hf2 : r.length ≤ f := by simp at hf; exact hf
    cases st with
    | none =>
      by_cases hk : blk b.toNat = true
      · simp only [hk, if_true, Option.map_none, toks]
        exact ih none acc e2 hf2 (fun a h => by cases h)
      · simp only [hk, if_false, Option.map_none, toks, Bool.false_eq_true]
        have := ih (some p.length) acc e2 hf2 (fun a h => by injection h with h; omega)
        simpa using this
    | some a =>
      have h2 := hst a rfl
      by_cases hk : blk b.toNat = true
      · simp only [hk, if_true, Option.map_some, toks]
        have h3 := ext_ba p (b :: r) a h2
        rw [← e] at h3
        have := ih none (acc ++ [(a, p.length)]) e2 hf2 (fun a h => by cases h)
        rw [this]
        simp [h3]
      · simp only [hk, if_false, Option.map_some, toks, Bool.false_eq_true]
        have := ih (some a) acc e2 hf2 (fun a' h => by injection h with h; omega)
        rw [this]
        simp [List.drop_append, Nat.sub_eq_zero_of_le h2]
theorem fields_toks (x : Bs) (hx : ∀ b ∈ x, b.toNat < 128) : Lib.goFieldsP blk (ba x) = (toks none x).map ba := by
  have hs : (ba x).size = x.length := by show x.toArray.size = _; simp
  have := spans_toks x hx x [] (ba x).size none [] rfl (by omega) (fun a h => by cases h)
  simpa [Lib.goFieldsP, Lib.spansOfP] using this
/-- No byte is foreign. -/
def Plain (x : Bs) : Prop := ∀ b ∈ x, fgn b.toNat = false
theorem fgn_low {n : Nat} (h : fgn n = false) : n < 128 := by
  unfold fgn blk at h
  simp at h
  omega
theorem idx_plain (x : Bs) : ∀ (r p : Bs) (f : Nat), x = p ++ r → r.length ≤ f → (Plain r ↔ Lib.idxFuncFrom fgn true (ba x) f p.length = -1)
  | [], p, f, e, hf => by
    have hs : (ba x).size = x.length := by show x.toArray.size = _; simp
    rw [Lib.idxFuncFrom_end fgn true (ba x) f p.length (by rw [hs, e]; simp)]
    exact ⟨fun _ => rfl, fun _ b h => by cases h⟩
  | b :: r, p, 0, e, hf => by simp at hf
  | b :: r, p, f + 1, e, hf => by
    have hs : (ba x).size = x.length := by show x.toArray.size = _; simp
    have hl : p.length < (ba x).size := by rw [hs, e]; simp
    have e2 : x = (p ++ [b]) ++ r := by rw [e]; simp
    have hl2 : (p ++ [b]).length = p.length + 1 := by simp
    have hf2 : r.length ≤ f := by simp at hf; exact hf
    unfold Lib.idxFuncFrom
    rw [if_pos hl]
    by_cases hb : b.toNat < 128
    · rw [dec_low x p r b e hb]
      have ih := idx_plain x r (p ++ [b]) f e2 hf2
      rw [hl2] at ih
      by_cases hk : fgn b.toNat = true
      · rw [if_pos hk]
        constructor
        · intro h
          have := h b (by simp)
          rw [hk] at this
          cases this
        · intro h
          omega
      · rw [if_neg hk]
        have hk' : fgn b.toNat = false := by simpa using hk
        rw [← ih]
        exact ⟨fun h c hc => h c (by simp [hc]), fun h c hc => by
          rcases List.mem_cons.1 hc with rfl | hc
          · exact hk'
          · exact h c hc⟩
    · have hk : p.length < x.length := by rw [e]; simp
      obtain ⟨h1, h2⟩ := ba_at x p.length hk
      have h3 : x[p.length] = b := by subst e; simp
      have := (decode_high (ba x) p.length h1 (by rw [h2, h3]; omega)).1
      have hq : fgn (Utf8.decode (ba x) p.length).1 = true := by
        cases hq : fgn (Utf8.decode (ba x) p.length).1 with
        | true => rfl
        | false => have := fgn_low hq; omega
      rw [if_pos hq]
      constructor
      · intro h
        have := fgn_low (h b (by simp))
        omega
      · intro h
        omega
theorem bad_plain (x : Bs) : badL x = false ↔ Plain (strip x) := by
  have hs : (ba (strip x)).size = (strip x).length := by show (strip x).toArray.size = _; simp
  have h := idx_plain (strip x) (strip x) [] (ba (strip x)).size rfl (by omega)
  rw [h]
  have hr := Lib.idxFuncFrom_range fgn true (ba (strip x)) (ba (strip x)).size 0
  unfold badL Lib.idxFunc
  constructor
  · intro h1
    have h1 := of_decide_eq_false h1
    rcases hr with h2 | h2
    · exact h2
    · omega
  · intro h1
    exact decide_eq_false (by rw [show Lib.idxFuncFrom fgn true (ba (strip x)) (ba (strip x)).size 0 = -1 from h1]; omega)
end Go.Proofs.Ytinbeodihhjfmaa
