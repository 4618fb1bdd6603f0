/-
  nat.Text: a number's decimal digits.
-/
import Derived.Test.YtkonakjchimniaaDoorParse
import Derived.BigRegion
import Derived.ChangeAlike
import Derived.Deep.LoopGhost
namespace Go.Proofs.YtkonakjchimniaaDoor
open Go.RowKit Go.Proofs.YtkonakjchimniaaDoor.Num
set_option linter.unusedVariables false
set_option maxRecDepth 100000

theorem info_u8 : (Tryd.prog.info? 5).map (fun i => (i.zero, i.size, i.bytes)) = some (some (.int .u8 0), 1, 1) := by kernel_rfl

/-! ### Turned about -/
/-- The first i and the last i have changed places. -/
def Rv (n i : Nat) (zs us : List Nat) : Prop := us.length = n ∧ ∀ t, t < n → us.getD t 0 = if t < i ∨ n ≤ t + i then zs.getD (n - 1 - t) 0 else zs.getD t 0
theorem rv_start (n : Nat) (zs : List Nat) (h : zs.length = n) : Rv n 0 zs zs := ⟨h, fun t ht => by rw [if_neg (by omega)]⟩
theorem getD_set (us : List Nat) (i t x : Nat) (hi : i < us.length) : (us.set i x).getD t 0 = if t = i then x else us.getD t 0 := by
  simp only [List.getD_eq_getElem?_getD, List.getElem?_set]
  by_cases h : i = t
  · subst h; simp [hi]
  · rw [if_neg h, if_neg (Ne.symm h)]
theorem rv_step {n i j : Nat} {zs us : List Nat} (h : Rv n i zs us) (hj : j + i = n - 1) (hlt : i < j) : Rv n (i + 1) zs ((us.set i (us.getD j 0)).set j (us.getD i 0)) := by
  obtain ⟨hl, hp⟩ := h
  refine ⟨by simp [hl], fun t ht => ?_⟩
  rw [getD_set _ j t _ (by simp; omega), getD_set _ i t _ (by omega)]
  by_cases h1 : t = j
  · subst h1
    rw [if_pos rfl, hp i (by omega), if_neg (by omega), if_pos (by omega)]
    congr 1; omega
  · rw [if_neg h1]
    by_cases h2 : t = i
    · subst h2
      rw [if_pos rfl, hp j (by omega), if_neg (by omega), if_pos (by omega)]
      congr 1; omega
    · rw [if_neg h2, hp t ht]
      by_cases h3 : t < i ∨ n ≤ t + i
      · rw [if_pos h3, if_pos (by omega)]
      · rw [if_neg h3, if_neg (by omega)]
theorem rv_end {n i : Nat} {zs us : List Nat} (hz : zs.length = n) (h : Rv n i zs us) (he : n ≤ 2 * i + 1) : us = zs.reverse := by
  apply List.ext_getElem?
  intro t
  rcases Nat.lt_or_ge t n with ht | ht
  · have h1 := h.2 t ht
    have h2 : us.getD t 0 = zs.getD (n - 1 - t) 0 := by
      rw [h1]
      by_cases h3 : t < i ∨ n ≤ t + i
      · rw [if_pos h3]
      · rw [if_neg h3]; congr 1; omega
    rw [List.getElem?_reverse (by omega), List.getElem?_eq_getElem (by have := h.1; omega), List.getElem?_eq_getElem (by omega)]
    simp only [List.getD_eq_getElem?_getD] at h2
    rw [List.getElem?_eq_getElem (by have := h.1; omega), List.getElem?_eq_getElem (by omega)] at h2
    simp at h2
    rw [h2]
    congr 2; omega
  · rw [List.getElem?_eq_none (by have := h.1; omega), List.getElem?_eq_none (by rw [List.length_reverse]; omega)]

def RvRel (w : World) (g n : Nat) (C : Array Value) (zs : List Nat) (iv jv : Value) (wr : World) : Prop :=
  ∃ (i : Nat) (us : List Nat), iv = .int .i64 (i : Int) ∧ jv = .int .i64 ((n : Int) - 1 - (i : Int)) ∧ i ≤ n ∧ Hid (Rv n i zs us) ∧ Row .u8 5 wr g 0 C us ∧ w.grownBy wr (some g)

set_option maxHeartbeats 4000000 in
theorem reverse_row (g n c : Nat) (C : Array Value) (zs : List Nat) (w : World) (hr : Row .u8 5 w g 0 C zs) (hzn : zs.length = n) (hn : n ≤ 9223372036854775807) :
    Calls Tryd.prog 82 #[.slice (some ⟨g, 0, none⟩) n c] w fun e w' => e = .returned (.tuple #[]) ∧ Row .u8 5 w' g 0 C zs.reverse ∧ w.grownBy w' (some g) := by
  have st : RvRel w g n C zs (.int .i64 0) (.int .i64 ((n : Int) - 1)) w := ⟨0, zs, rfl, by simp, Nat.zero_le _, hide (rv_start n zs hzn), hr, only_refl _ _⟩
  have Hz := hide hzn
  clear hzn hr
  go_enter Tryd.func82, Tryd.ntmps82
  go_wp2_with fail
  go_loopw [2, 3] (fun iv jv wr => RvRel w g n C zs iv jv wr) (fun iv _ _ => n - (intOf iv).toNat)
  case atStart => exact st
  case round =>
    obtain ⟨i, us, rfl, rfl, hi, hrv, hrow, hg⟩ := hrel
    clear st
    by_cases hlt : 2 * i + 1 < n
    · obtain ⟨j, hj⟩ : ∃ j, j = n - 1 - i := ⟨_, rfl⟩
      have ej : ((n : Int) - 1 - (i : Int)) = (j : Int) := by omega
      rw [ej]
      have hl := hrv.out.1
      have hij : (i : Int) < (j : Int) := by omega
      have hij' : i < j := by omega
      have hjn : (j : Int) < (n : Int) := by omega
      have hs := rv_step hrv.out (by omega) hij'
      have hci := hrow.cell (j := i) (by omega)
      have hcj := hrow.cell (j := j) (by omega)
      have hfi := hrow.frozen i
      have hfj := hrow.frozen j
      have h1 := hrow.set_ (j := i) (by omega) (us.getD j 0)
      have h2 := h1.set_ (j := j) (by simp; omega) (us.getD i 0)
      rw [Nat.zero_add] at hci hcj
      rw [Nat.zero_add, Nat.zero_add] at h2
      obtain ⟨x, hx⟩ : ∃ x, us.getD i 0 = x := ⟨_, rfl⟩
      obtain ⟨y, hy⟩ : ∃ y, us.getD j 0 = y := ⟨_, rfl⟩
      rw [hx, hy] at hs h2
      rw [hx] at hci
      rw [hy] at hcj
      have hg2 := only_set (p := ⟨g, j, none⟩) (only_set (p := ⟨g, i, none⟩) hg rfl (.int .u8 (y : Int))) rfl (.int .u8 (x : Int))
      have ej2 : (j : Int) - 1 = (n : Int) - 1 - ((i + 1 : Nat) : Int) := by omega
      have fin : RvRel w g n C zs (.int .i64 ((i + 1 : Nat) : Int)) (.int .i64 ((j : Int) - 1)) (((wr.setCell ⟨g, i, none⟩ (.int .u8 (y : Int))).setCell ⟨g, j, none⟩ (.int .u8 (x : Int))).drew) :=
        ⟨i + 1, _, rfl, by rw [ej2], by omega, hide hs, h2.drew, only_drew hg2⟩
      clear hs h1 h2 hg2 hx hy ej ej2 hl hrow hg hrv hj Hz
      go_wp2_with fail
      go_region
      all_goals go_wp2_with fail
      all_goals go_roundw
      case rel => exact fin
      case measure => simp [intOf]; omega
    · have e := rv_end Hz.out hrv.out (by omega)
      rw [e] at hrow
      have hij : ¬ ((i : Int) < (n : Int) - 1 - (i : Int)) := by omega
      clear e hrv Hz
      go_wp2_with fail
      go_end0
      exact ⟨rfl, hrow, hg⟩

/-! ### The digits -/
def dch (ds : List Nat) : List Nat := ds.map (· + 48)
def dtext (n : Nat) : List UInt8 := if n = 0 then [48] else ((cn 10 n).map fun d => UInt8.ofNat (d + 48)).reverse
def TextRet (w : World) (n : Nat) (e : Ending) (w' : World) : Prop := e = .returned (.string ⟨(dtext n).toArray⟩) ∧ Below w.heap.size w w'

/-- Blocks of two element types are two. -/
theorem own_ne {k1 k2 : IntKind} {e1 e2 : TypeId} {w : World} {B1 B2 : Nat} {v1 v2 : Value} {xs ys : List Nat} (h1 : Own k1 e1 w B1 v1 xs) (h2 : Own k2 e2 w B2 v2 ys) (he : e1 ≠ e2) :
    ∀ g, v1.ownBlock = some g → v2.ownBlock ≠ some g := by
  intro g hg hg'
  rcases h1 with ⟨rfl, _⟩ | ⟨g1, c1, C1, rfl, _, ⟨cs1, hh1, _⟩, _⟩
  · cases hg
  · rcases h2 with ⟨rfl, _⟩ | ⟨g2, c2, C2, rfl, _, ⟨cs2, hh2, _⟩, _⟩
    · cases hg'
    · simp [Value.ownBlock] at hg hg'
      subst hg; subst hg'
      rw [hh1] at hh2
      injection hh2 with hh2
      injection hh2 with _ ht
      exact he ht
theorem Own.keepOff {k : IntKind} {e : TypeId} {w w' : World} {B : Nat} {v : Value} {xs : List Nat} (h : Own k e w B v xs) {row : Option Nat} (hg : w.grownBy w' row) (hne : ∀ g, v.ownBlock = some g → row ≠ some g) : Own k e w' B v xs := by
  refine h.grown hg ?_
  cases hv : v.ownBlock with
  | none => exact .inl rfl
  | some g => exact .inr (fun h' => hne g hv h'.symm)

/-- Outer loop: digits that stand, and the number that is left (at most the ghost). -/
def TRel (w : World) (n gh : Nat) (dv rv : Value) (wr : World) : Prop :=
  ∃ (R : Nat) (ds : List Nat), R ≤ gh ∧ Own .u8 5 wr w.heap.size dv (dch ds) ∧ Own .u64 71 wr w.heap.size rv (cn Q R) ∧ Dg 10 ds ∧ Hid (vl 10 ds + 10 ^ ds.length * R = n) ∧ Below w.heap.size w wr
/-- Inner loop. -/
def IRel (w : World) (grp : Nat) (ds us : List Nat) (rv dv gv iv : Value) (wr : World) : Prop :=
  ∃ (k gk : Nat) (es : List Nat), k ≤ 19 ∧ iv = .int .i64 (k : Int) ∧ gv = .int .u64 (gk : Int) ∧ gk < Q ∧ Own .u8 5 wr w.heap.size dv (dch (ds ++ es)) ∧ Own .u64 71 wr w.heap.size rv us ∧
    es.length = k ∧ Dg 10 es ∧ Hid (vl 10 es + 10 ^ k * gk = grp) ∧ Below w.heap.size w wr

theorem len_bound {n nn : Nat} (h : n < Q ^ nn) {ds : List Nat} {R : Nat} (e : vl 10 ds + 10 ^ ds.length * R = n) (hR : R ≠ 0) : ds.length ≤ 20 * nn := by
  have h1 : 10 ^ ds.length * 1 ≤ 10 ^ ds.length * R := Nat.mul_le_mul_left _ (by omega)
  have h2 : Q ^ nn ≤ (10 ^ 20) ^ nn := Nat.pow_le_pow_left (by unfold Q; omega) nn
  rw [← Nat.pow_mul] at h2
  have h3 : 10 ^ ds.length < 10 ^ (20 * nn) := by omega
  have := (Nat.pow_lt_pow_iff_right (by omega : 1 < 10)).1 h3
  omega

theorem dch_append (ds es : List Nat) : dch (ds ++ es) = dch ds ++ dch es := by unfold dch; simp
theorem dch_len (ds : List Nat) : (dch ds).length = ds.length := by unfold dch; simp
theorem dch_take (ds : List Nat) (k : Nat) : dch (ds.take k) = (dch ds).take k := by unfold dch; simp [List.map_take]

/-- What TrimRight finds. -/
theorem is48 (d : Nat) (h : d < 10) : ([48] : List UInt8).contains (UInt8.ofNat (d + 48)) = decide (d = 0) := by
  have : ∀ e : Fin 10, ([48] : List UInt8).contains (UInt8.ofNat (e.val + 48)) = decide (e.val = 0) := by decide
  exact this ⟨d, h⟩
theorem trimR_snoc (l : List UInt8) (b : UInt8) : Lib.trimRightS (l ++ [b]) [48] = if ([48] : List UInt8).contains b = true then Lib.trimRightS l [48] else l ++ [b] := by
  unfold Lib.trimRightS
  rw [List.reverse_append]
  simp only [List.reverse_cons, List.reverse_nil, List.nil_append, List.singleton_append, List.dropWhile_cons]
  split
  · rfl
  · simp
theorem tz_snoc (ds : List Nat) (d : Nat) : tz (ds ++ [d]) = if d = 0 then tz ds else ds ++ [d] := by
  split
  · rename_i h; rw [h, tz_append_zero]
  · rename_i h; exact tz_append_pos _ h
theorem bytes_dch (ds : List Nat) : Lib.bytesOf ((dch ds).map fun n : Nat => (n : Int)) = ds.map fun d => UInt8.ofNat (d + 48) := by
  unfold Lib.bytesOf dch
  rw [List.map_map, List.map_map]
  rfl
theorem trim_digits_aux : ∀ (n : Nat) (ds : List Nat), ds.length = n → Dg 10 ds → (Lib.trimRightS (ds.map fun d => UInt8.ofNat (d + 48)) [48]).length = (tz ds).length := by
  intro n
  induction n with
  | zero => intro ds h _; rw [List.eq_nil_of_length_eq_zero h]; rfl
  | succ n ih =>
    intro ds h hd
    obtain ⟨es, d, rfl⟩ : ∃ es d, ds = es ++ [d] := by
      have hne : ds ≠ [] := by intro h'; rw [h'] at h; simp at h
      exact ⟨ds.dropLast, ds.getLast hne, (List.dropLast_concat_getLast hne).symm⟩
    rw [List.map_append, List.map_cons, List.map_nil, trimR_snoc, is48 d (hd.right d (by simp)), tz_snoc]
    by_cases h0 : d = 0
    · rw [if_pos (by simpa using h0), if_pos h0]
      exact ih es (by simpa using h) hd.left
    · rw [if_neg (by simpa using h0), if_neg h0]; simp
theorem trim_digits (ds : List Nat) (h : Dg 10 ds) : (Lib.trimRightS (Lib.bytesOf ((dch ds).map fun n : Nat => (n : Int))) [48]).length = (tz ds).length := by
  rw [bytes_dch]
  exact trim_digits_aux _ ds rfl h
theorem text_str {ds : List Nat} {n : Nat} (dd : Dg 10 ds) (hv : vl 10 ds = n) (hp : tz ds ≠ []) : strOfNums (((dch (tz ds)).reverse).map fun n : Nat => (n : Int)) = ⟨(dtext n).toArray⟩ := by
  have h1 : cn 10 n = tz ds := by rw [← hv, cn_vl (by omega) dd]
  have h2 : n ≠ 0 := by
    intro h
    rw [h, cn_zero] at h1
    exact hp h1.symm
  unfold strOfNums dtext
  rw [if_neg h2, h1]
  unfold dch
  rw [← List.map_reverse, ← List.map_reverse, List.map_map, List.map_map]
  rfl

theorem quo10 (g : Nat) : (g : Int) / 10 = ((g / 10 : Nat) : Int) := by omega
theorem rem10 (g : Nat) : (g : Int) % 10 = ((g % 10 : Nat) : Int) := by omega

set_option maxHeartbeats 4000000 in
theorem text_any (A : Option Addr) (nn c : Nat) (xs : List Nat) (w : World) (hx : Rd .u64 w w.heap.size A nn xs) (dx : Dg Q xs) (hnc : nn ≤ c) (hc : c ≤ maxLen) (hn : nn ≤ 1000000000) :
    Calls Tryd.prog 49 #[.slice A nn c] w (TextRet w (vl Q xs)) := by
  have htr := trim_any A nn c xs w hx dx hnc hc (by omega)
  have hlb : ∀ (ds : List Nat) (R : Nat), vl 10 ds + 10 ^ ds.length * R = vl Q xs → R ≠ 0 → ds.length ≤ 20000000000 := by
    intro ds R e hR
    have h := len_bound (by have := vl_lt dx; rwa [hx.1] at this) e hR
    omega
  generalize vl Q xs = n at *
  obtain ⟨i0, hi, hz0, hz1, hz2⟩ := info_parts info_u8
  have st : ∀ v w1, Own .u64 71 w1 w.heap.size v (cn Q n) → Below w.heap.size w w1 → TRel w n n (.slice none 0 0) v w1 := fun v w1 ho hb => ⟨n, [], Nat.le_refl _, Own.nil, ho, Dg.nil, hide (by simp [vl]), hb⟩
  have Hlb := hide hlb
  clear hx dx hnc hc hn hlb
  go_enter Tryd.func49, Tryd.ntmps49
  go_wp2_with (go_at_call 21; refine htr.mono ?_; rintro e w1 ⟨v, rfl, ho, hb⟩; have st1 := st v w1 ho hb; clear ho hb)
  go_loopg [3, 4] n (fun gh dv rv wr => TRel w n gh dv rv wr)
  case atStart => exact st1
  case round =>
    obtain ⟨R, ds, hRg, od, orr, dd, hv, hbel⟩ := hrel
    clear st st1 htr
    obtain ⟨PR, cR, hR1, hl1, hl2, _, _⟩ := orr.form
    subst hR1
    by_cases h0 : R = 0
    · subst h0
      have hvn := hv.out
      rw [Nat.mul_zero, Nat.add_zero] at hvn
      have htl := trim_digits ds dd
      rw [cn_zero, List.length_nil]
      rcases od with ⟨rfl, he⟩ | ⟨g, cap, C, rfl, hB, hr, hC, hcm⟩
      · have hds : ds = [] := by
          unfold dch at he
          exact List.map_eq_nil_iff.1 he
        subst hds
        have hn0 : n = 0 := by rw [← hvn]; rfl
        have htrim := Tryd.bytes_TrimRight_0 none 0 0 [] wr rfl (Nat.le_refl _) (by omega) (Lib.BytesIn.nil _ _ _) (fun x hx => by cases hx)
        simp only [Lib.bytesOf, List.map_nil, Lib.trimRightS_nil, List.length_nil] at htrim
        have fin : ∀ w2, Below wr.heap.size wr w2 → TextRet w n (.returned (.string ⟨#[48]⟩)) w2 := fun w2 hb => ⟨by rw [hn0]; rfl, hbel.trans (hb.mono hbel.size)⟩
        clear hv hvn htl dd orr hl1 hl2 hbel he Hlb hn0 hRg
        go_wp2_with (go_at_call 81; refine htrim.mono ?_; rintro e w2 ⟨rfl, hb2⟩; have fin2 := fin w2 hb2)
        go_ret
        exact fin2
      · obtain ⟨cs, _, _, hlc, _⟩ := id hr
        have hcm2 : cap ≤ 9223372036854775807 := by unfold maxLen at hcm; omega
        have htrim := Tryd.bytes_TrimRight_0 (some ⟨g, 0, none⟩) (dch ds).length cap ((dch ds).map fun n : Nat => (n : Int)) wr (by simp) (by omega) hcm2
          (fun _ => ⟨g, 0, rfl, fun i hi => by
            rw [hr.cell hi]
            simp [List.getD_eq_getElem?_getD, hi]⟩)
          (fun x hx => by
            simp only [List.mem_map] at hx
            obtain ⟨a, ha, rfl⟩ := hx
            unfold dch at ha
            obtain ⟨b, hb, rfl⟩ := List.mem_map.1 ha
            have := dd b hb
            omega)
        rw [htl] at htrim
        by_cases hz : tz ds = []
        · have hn0 : n = 0 := by rw [← hvn, ← tz_vl, hz]; rfl
          rw [hz, List.length_nil] at htrim
          have fin : ∀ w2, Below wr.heap.size wr w2 → TextRet w n (.returned (.string ⟨#[48]⟩)) w2 := fun w2 hb => ⟨by rw [hn0]; rfl, hbel.trans (hb.mono hbel.size)⟩
          generalize (dch ds).length = L at *
          clear hv hvn htl dd orr hl1 hl2 hbel Hlb hn0 hRg hr hz
          go_wp2_with (go_at_call 81; refine htrim.mono ?_; rintro e w2 ⟨rfl, hb2⟩; have fin2 := fin w2 hb2)
          go_ret
          exact fin2
        · have hml := tz_length_le ds
          have hlt := hr.lt
          have hmp : (tz ds).length ≠ 0 := fun h => hz (List.eq_nil_of_length_eq_zero h)
          have hrev : ∀ w2, Below wr.heap.size wr w2 → Calls Tryd.prog 82 #[.slice (some ⟨g, 0, none⟩) (tz ds).length cap] w2 (fun e w3 => e = .returned (.tuple #[]) ∧
              (convert 102 9 (.slice (some ⟨g, 0, none⟩) (tz ds).length cap)).run Tryd.prog w3 = .ok (.string ⟨(dtext n).toArray⟩) w3 ∧ Below w.heap.size w w3) := by
            intro w2 hb
            obtain ⟨C', hC', hr'⟩ := (hr.below hb hlt).first (m := (tz ds).length) (by rw [dch_len]; exact hml)
            rw [← dch_take, ← tz_take] at hr'
            refine (reverse_row g _ cap C' _ w2 hr' (dch_len _) (by rw [dch_len] at hlc; omega)).mono fun e w3 ⟨he, hrow, hg⟩ => ⟨he, ?_, below_only (hbel.trans (hb.mono hbel.size)) hg (Nat.le_trans hbel.size hb.size) hB⟩
            rw [← text_str dd hvn hz]
            refine run_convert_bytes_arg (P := Tryd.prog) w3 102 5 Tryd.underlying102 Tryd.underlying5 g 0 _ cap _ (by simp [dch_len]) (fun i hi => ?_) 9 Tryd.underlying9
            rw [hrow.cell (by rw [List.length_reverse, dch_len]; exact hi)]
            have hi2 : i < (dch (tz ds)).length := by rw [dch_len]; exact hi
            simp [List.getD_eq_getElem?_getD, hi2]
          have b0 : (((tz ds).length : Int) == 0) = false := beq_eq_false_iff_ne.2 (by omega)
          have hmI : (0 : Int) < ((tz ds).length : Int) := by omega
          generalize (dch ds).length = L at *
          generalize (tz ds).length = m at *
          clear hv hvn htl dd orr hl1 hl2 hbel Hlb hRg hr hz hml hlt hlc hmp
          go_wp2_with (first
            | (go_at_call 81; refine htrim.mono ?_; rintro e w2 ⟨rfl, hb2⟩; have hrev2 := hrev w2 hb2)
            | (go_at_call 82; refine hrev2.mono ?_; rintro e w3 ⟨rfl, hconv, hb3⟩))
          go_ret
          exact ⟨rfl, hb3⟩
    · have hne : (cn Q R).length ≠ 0 := fun h => h0 ((cn_eq_nil Q_two).1 (List.eq_nil_of_length_eq_zero h))
      have hdl := Hlb.out ds R hv.out h0
      have hdw := divWord_own w.heap.size 10000000000000000000 (.slice PR (cn Q R).length cR) _ wr orr (dg_cn Q_two R) (by omega) (by unfold Q; omega)
      rw [vl_cn Q_two] at hdw
      have hdw : Calls Tryd.prog 51 #[.slice PR (cn Q R).length cR, .int .u64 10000000000000000000] wr (fun e w2 => ∃ us : List Nat, e = .returned (.int .u64 ((R % 10000000000000000000 : Nat) : Int)) ∧ Dg Q us ∧ vl Q us = R / 10000000000000000000 ∧
          Own .u64 71 w2 w.heap.size (.slice PR (cn Q R).length cR) us ∧ wr.grownBy w2 (Value.slice PR (cn Q R).length cR).ownBlock) :=
        hdw.mono fun e w2 ⟨us, he, _, dus, hus, ho, hg⟩ => ⟨us, he, dus, hus, ho, hg⟩
      have hst2 : ∀ us w2, wr.grownBy w2 (Value.slice PR (cn Q R).length cR).ownBlock → Own .u64 71 w2 w.heap.size (.slice PR (cn Q R).length cR) us → IRel w (R % 10000000000000000000) ds us (.slice PR (cn Q R).length cR) u3 (.int .u64 ((R % 10000000000000000000 : Nat) : Int)) (.int .i64 0) w2 := by
        intro us w2 hg ho
        refine ⟨0, R % 10000000000000000000, [], by omega, rfl, rfl, ?_, ?_, ho, rfl, Dg.nil, hide (by simp [vl]), push_below hbel orr hg hbel.size⟩
        · have := Nat.mod_lt R (show 10000000000000000000 > 0 by omega)
          unfold Q; omega
        · rw [List.append_nil]
          exact od.keepOff hg (own_ne od orr (by decide))
      have hgb : R % 10000000000000000000 < 10 ^ 19 := Nat.mod_lt _ (by omega)
      have hsum : R / 10000000000000000000 * 10 ^ 19 + R % 10000000000000000000 = R := Nat.div_add_mod' _ _
      have hless : R / 10000000000000000000 < R := Nat.div_lt_self (by omega) (by omega)
      generalize R % 10000000000000000000 = grp at *
      generalize R / 10000000000000000000 = R' at *
      have hfinal : ∀ (us es : List Nat) (W : World) (dv v' : Value), vl Q us = R' → Dg Q us → es.length = 19 → Dg 10 es → vl 10 es = grp → Own .u8 5 W w.heap.size dv (dch (ds ++ es)) → Own .u64 71 W w.heap.size v' (tz us) → Below w.heap.size w W → TRel w n R' dv v' W := by
        intro us es W dv v' hus dus hel des hes hod hov hb
        rw [← cn_vl Q_two dus, hus] at hov
        refine ⟨R', ds ++ es, Nat.le_refl _, hod, hov, dd.append des, hide ?_, hb⟩
        rw [← hv.out, vl_append, hes, List.length_append, hel, Nat.pow_add, ← hsum, Nat.mul_add, Nat.mul_comm R' (10 ^ 19), ← Nat.mul_assoc]
        omega
      have Hgb := hide hgb
      have Hless := hide hless
      have hRg2 : R' < R := hless
      have hlI : (0 : Int) < ((cn Q R).length : Int) := by omega
      have Hor := hide orr
      generalize (cn Q R).length = lR at *
      clear hgb hless hsum hv dd od orr hl1 hl2 hne hbel h0
      go_wp2_with (go_at_call 51; refine hdw.mono ?_; rintro e w2 ⟨us, rfl, dus, hus, hou, hgr⟩; have st2 := hst2 us w2 hgr hou; clear hst2 hou hgr)
      go_loopw [3, 5, 15] (fun dv gv iv W => IRel w grp ds us (.slice PR lR cR) dv gv iv W) (fun _ _ iv _ => 19 - (intOf iv).toNat)
      case atStart => exact st2
      case round =>
        obtain ⟨k, gk, es, hk, rfl, rfl, hgq, hod, hor, hel, des, hev, hbl⟩ := hrel
        clear st2 hdw
        by_cases hlt : k < 19
        · obtain ⟨d, hd⟩ : ∃ d, Hid (gk % 10 = d) := ⟨_, hide rfl⟩
          obtain ⟨g2, hg2⟩ : ∃ g2, Hid (gk / 10 = g2) := ⟨_, hide rfl⟩
          have hd9 : d ≤ 9 := by rw [← hd.out]; omega
          have hsum2 : g2 * 10 + d = gk := by rw [← hd.out, ← hg2.out]; omega
          have e1 := rem10 gk
          have e2 := quo10 gk
          rw [hd.out] at e1
          rw [hg2.out] at e2
          obtain ⟨x, hx⟩ : ∃ x, x = d + 48 := ⟨_, rfl⟩
          have e3 : (d : Int) + 48 = (x : Int) := by omega
          have e4 : (48 : Int) + (d : Int) = (x : Int) := by omega
          have hx57 : (x : Int) ≤ 57 := by omega
          have hg2q : g2 < Q := by omega
          have hgI : (gk : Int) ≤ 18446744073709551615 := by unfold Q at hgq; omega
          have hxd : Hid (dch (ds ++ es) ++ [x] = dch (ds ++ (es ++ [d]))) := hide (by rw [← List.append_assoc, dch_append (ds ++ es), hx]; rfl)
          have hsz := hbl.size
          have fin : ∀ u v' w', Own .u8 5 wr w.heap.size u (dch (ds ++ es)) → Own .u8 5 w' w.heap.size v' (dch (ds ++ es) ++ [x]) → wr.grownBy w' u.ownBlock →
              IRel w grp ds us (.slice PR lR cR) v' (.int .u64 (g2 : Int)) (.int .i64 ((k + 1 : Nat) : Int)) w' := by
            intro u v' w' ou ov hg
            rw [hxd.out] at ov
            refine ⟨k + 1, g2, es ++ [d], by omega, rfl, rfl, hg2q, ov, hor.keepOff hg (own_ne hor ou (by decide)), by simp [hel], des.append (Dg.cons (by omega) Dg.nil), hide ?_, push_below hbl ou hg hsz⟩
            rw [vl_snoc, hel, Nat.pow_succ, ← hev.out, ← hsum2, Nat.mul_add, Nat.mul_assoc, Nat.mul_comm 10 g2]
            omega
          have Hlen : Hid ((dch (ds ++ es)).length + 1 ≤ 17592186044416) := hide (by rw [dch_len, List.length_append]; omega)
          have Hsz := hide hsz
          have Hod := hide hod
          clear hod hor hel des hev hbl hsz hd hg2 hsum2 hx hxd hg2q hgq hdl hus dus
          go_wp2_with (at_builtin; refine wpList_push rfl (.tmp 17) (.tmp 22) 102 rfl Tryd.underlying102 hi hz0 hz1 hz2 rfl wr w.heap.size _ (dch (ds ++ es)) x Hod.out rfl rfl Hlen.out (by decide) Hsz.out ?_; intro v' w' ho hg; have fin2 := fin _ v' w' Hod.out ho hg.1; clear fin ho hg)
          go_roundw
          case rel => exact fin2
          case measure => simp [intOf]; omega
        · obtain rfl : k = 19 := by omega
          have hgk : gk = 0 := by
            have h1 := hev.out
            have h2 := Hgb.out
            rcases Nat.eq_zero_or_pos gk with h | h
            · exact h
            · have : 10 ^ 19 * 1 ≤ 10 ^ 19 * gk := Nat.mul_le_mul_left _ h
              omega
          have hve : vl 10 es = grp := by
            have h1 := hev.out
            rw [hgk] at h1
            omega
          obtain ⟨v', ho3, hbl3, hcl⟩ := clip_own _ _ _ _ hor
          have fin := hfinal us es _ _ v' hus dus hel des hve hod ho3 hbl
          clear hod hor hel des hev hbl hgk hve ho3 hbl3 hfinal hus dus
          go_wp2_with (go_at_call 50; refine hcl.mono ?_; rintro e w' ⟨rfl, rfl⟩)
          go_roundg R'
          case rel => exact fin
          case measure => omega
end Go.Proofs.YtkonakjchimniaaDoor
