/-
  Lines written anew: what is read of them. No function of the program here.
-/
import Derived.Test.YtinbeodihhjfmaaFld9
namespace Go.Proofs.Ytinbeodihhjfmaa
open Go
set_option linter.unusedVariables false
set_option linter.unusedSimpArgs false
set_option maxRecDepth 100000

/-- No blank in it, and it isn't empty. -/
def Wd (w : Bs) : Prop := w ≠ [] ∧ ∀ b ∈ w, blk b.toNat = false
theorem toks_wd : ∀ (x : Bs) (st : Option Bs), (∀ c, st = some c → Wd c) → ∀ w ∈ toks st x, Wd w
  | [], none, h, w, hw => by simp [toks] at hw
  | [], some c, h, w, hw => by simp [toks] at hw; subst hw; exact h _ rfl
  | b :: r, none, h, w, hw => by
    rw [toks] at hw
    split at hw
    · exact toks_wd r none (fun c e => by cases e) w hw
    · rename_i hb
      exact toks_wd r (some [b]) (fun c e => by injection e with e; subst e; exact ⟨by simp, fun d hd => by simp at hd; subst hd; simpa using hb⟩) w hw
  | b :: r, some c, h, w, hw => by
    rw [toks] at hw
    split at hw
    · rcases List.mem_cons.1 hw with rfl | hw
      · exact h _ rfl
      · exact toks_wd r none (fun c e => by cases e) w hw
    · rename_i hb
      exact toks_wd r (some (c ++ [b])) (fun c' e => by
        injection e with e
        subst e
        exact ⟨by simp, fun d hd => by
          rcases List.mem_append.1 hd with hd | hd
          · exact (h c rfl).2 d hd
          · simp at hd; subst hd; simpa using hb⟩) w hw
/-- A word's bytes are the text's. -/
theorem toks_mem : ∀ (x : Bs) (st : Option Bs), ∀ w ∈ toks st x, ∀ b ∈ w, b ∈ x ∨ ∃ c, st = some c ∧ b ∈ c
  | [], none, w, hw, b, hb => by simp [toks] at hw
  | [], some c, w, hw, b, hb => by simp [toks] at hw; subst hw; exact .inr ⟨_, rfl, hb⟩
  | d :: r, none, w, hw, b, hb => by
    rw [toks] at hw
    split at hw
    · rcases toks_mem r none w hw b hb with h | ⟨c, e, _⟩
      · exact .inl (by simp [h])
      · cases e
    · rcases toks_mem r (some [d]) w hw b hb with h | ⟨c, e, h⟩
      · exact .inl (by simp [h])
      · injection e with e; subst e; simp at h; subst h; exact .inl (by simp)
  | d :: r, some c, w, hw, b, hb => by
    rw [toks] at hw
    split at hw
    · rcases List.mem_cons.1 hw with rfl | hw
      · exact .inr ⟨_, rfl, hb⟩
      · rcases toks_mem r none w hw b hb with h | ⟨c, e, _⟩
        · exact .inl (by simp [h])
        · cases e
    · rcases toks_mem r (some (c ++ [d])) w hw b hb with h | ⟨c', e, h⟩
      · exact .inl (by simp [h])
      · injection e with e
        subst e
        rcases List.mem_append.1 h with h | h
        · exact .inr ⟨c, rfl, h⟩
        · simp at h; subst h; exact .inl (by simp)
def stl (st : Option Bs) : Nat := match st with
  | none => 0
  | some c => c.length
theorem toks_len : ∀ (x : Bs) (st : Option Bs), (toks st x).length ≤ x.length + (if st = none then 0 else 1) ∧ ∀ w ∈ toks st x, w.length ≤ x.length + stl st
  | [], none => ⟨by simp [toks], fun w hw => by simp [toks] at hw⟩
  | [], some c => ⟨by simp [toks], fun w hw => by simp [toks] at hw; subst hw; simp [stl]⟩
  | d :: r, none => by
    have h1 := toks_len r none
    have h2 := toks_len r (some [d])
    rw [toks]
    split
    · refine ⟨by have := h1.1; simp at this ⊢; omega, fun w hw => ?_⟩
      have := h1.2 w hw
      simp [stl] at this ⊢; omega
    · refine ⟨by have := h2.1; simp at this ⊢; omega, fun w hw => ?_⟩
      have := h2.2 w hw
      simp [stl] at this ⊢; omega
  | d :: r, some c => by
    have h1 := toks_len r none
    have h2 := toks_len r (some (c ++ [d]))
    rw [toks]
    split
    · refine ⟨by have := h1.1; simp at this ⊢; omega, fun w hw => ?_⟩
      rcases List.mem_cons.1 hw with rfl | hw
      · simp [stl]
      · have := h1.2 w hw
        simp [stl] at this ⊢; omega
    · refine ⟨by have := h2.1; simp at this ⊢; omega, fun w hw => ?_⟩
      have := h2.2 w hw
      simp [stl] at this ⊢; omega
/-- The first word begins as the text does, where that is no blank. -/
theorem toks_first : ∀ (x c : Bs), ∃ w r, toks (some c) x = w :: r ∧ ∃ t, w = c ++ t
  | [], c => ⟨c, [], rfl, [], by simp⟩
  | b :: x, c => by
    rw [toks]
    split
    · exact ⟨_, _, rfl, [], by simp⟩
    · obtain ⟨w, r, e, t, h⟩ := toks_first x (c ++ [b])
      exact ⟨w, r, e, [b] ++ t, by rw [h]; simp⟩

/-- A gap: blanks. -/
def Gp (g : Bs) : Prop := g ≠ [] ∧ g.length ≤ 3 ∧ ∀ b ∈ g, b = 32 ∨ b = 9
theorem Gp.blk {g : Bs} (h : Gp g) : ∀ b ∈ g, blk b.toNat = true := fun b hb => by rcases h.2.2 b hb with rfl | rfl <;> rfl
theorem toks_pre : ∀ (g : Bs), (∀ b ∈ g, blk b.toNat = true) → ∀ r, toks none (g ++ r) = toks none r
  | [], _, r => rfl
  | b :: g, h, r => by
    rw [List.cons_append, toks, if_pos (h b (by simp))]
    exact toks_pre g (fun c hc => h c (by simp [hc])) r
theorem toks_end {g : Bs} (h : Gp g) (c r : Bs) : toks (some c) (g ++ r) = c :: toks none r := by
  cases g with
  | nil => exact absurd rfl h.1
  | cons b g =>
    rw [List.cons_append, toks, if_pos (h.blk b (by simp)), toks_pre g (fun c hc => h.blk c (by simp [hc])) r]
theorem toks_run : ∀ (w : Bs), (∀ b ∈ w, blk b.toNat = false) → ∀ c r, toks (some c) (w ++ r) = toks (some (c ++ w)) r
  | [], _, c, r => by simp
  | b :: w, h, c, r => by
    rw [List.cons_append, toks, if_neg (by rw [h b (by simp)]; simp), toks_run w (fun d hd => h d (by simp [hd])) (c ++ [b]) r]
    simp
theorem toks_start {w : Bs} (h : Wd w) (r : Bs) : toks none (w ++ r) = toks (some w) r := by
  cases w with
  | nil => exact absurd rfl h.1
  | cons b w =>
    rw [List.cons_append, toks, if_neg (by rw [h.2 b (by simp)]; simp), toks_run w (fun d hd => h.2 d (by simp [hd]))]
    rfl
/-- Words with gaps between; f: the first has none before it. -/
def jw (g : Bs) : Bool → List Bs → Bs
  | _, [] => []
  | f, w :: r => (if f then [] else g) ++ (w ++ jw g false r)
theorem jw_snoc (g : Bs) : ∀ (a : List Bs) (f : Bool) (w : Bs), jw g f (a ++ [w]) = jw g f a ++ ((if f && a.isEmpty then [] else g) ++ w)
  | [], f, w => by simp [jw]
  | v :: a, f, w => by
    have ih := jw_snoc g a false w
    rw [List.cons_append, jw, jw, ih]
    simp
theorem jw_toks {g : Bs} (hg : Gp g) : ∀ (ws : List Bs), (∀ w ∈ ws, Wd w) → ∀ c, toks (some c) (jw g false ws ++ g) = c :: ws
  | [], _, c => by
    have := toks_end hg c []
    rw [List.append_nil] at this
    rw [jw, List.nil_append, this]
    rfl
  | w :: ws, h, c => by
    have ih := jw_toks hg ws (fun v hv => h v (by simp [hv])) w
    have e : jw g false (w :: ws) ++ g = g ++ (w ++ (jw g false ws ++ g)) := by simp [jw]
    rw [e, toks_end hg, toks_start (h w (by simp)), ih]
theorem jw_all {g : Bs} (hg : Gp g) {ws : List Bs} (h : ∀ w ∈ ws, Wd w) (hn : ws ≠ []) : toks none (jw g true ws ++ g) = ws := by
  cases ws with
  | nil => exact absurd rfl hn
  | cons w ws =>
    have e : jw g true (w :: ws) ++ g = w ++ (jw g false ws ++ g) := by simp [jw]
    rw [e, toks_start (h w (by simp)), jw_toks hg ws (fun v hv => h v (by simp [hv]))]
theorem jw_mem {g : Bs} : ∀ (ws : List Bs) (f : Bool), ∀ b ∈ jw g f ws, b ∈ g ∨ ∃ w ∈ ws, b ∈ w
  | [], f, b, h => by simp [jw] at h
  | w :: ws, f, b, h => by
    rw [jw] at h
    rcases List.mem_append.1 h with h | h
    · split at h
      · cases h
      · exact .inl h
    · rcases List.mem_append.1 h with h | h
      · exact .inr ⟨w, by simp, h⟩
      · rcases jw_mem ws false b h with h | ⟨v, h1, h2⟩
        · exact .inl h
        · exact .inr ⟨v, by simp [h1], h2⟩
theorem jw_len {g : Bs} (hg : g.length ≤ 3) {M : Nat} : ∀ (ws : List Bs) (f : Bool), (∀ w ∈ ws, w.length ≤ M) → (jw g f ws).length ≤ ws.length * (M + 3)
  | [], f, h => by simp [jw]
  | w :: ws, f, h => by
    have ih := jw_len hg ws false (fun v hv => h v (by simp [hv]))
    have h1 := h w (by simp)
    have h2 : (if f then [] else g : Bs).length ≤ 3 := by split <;> simp [hg]
    rw [jw, List.length_append, List.length_append, List.length_cons, Nat.add_mul]
    omega
abbrev bs (w : ByteArray) : Bs := w.data.toList
theorem ba_bs (w : ByteArray) : ba (bs w) = w := by
  apply ByteArray.ext
  simp
abbrev tl8 : Bs := [13, 10, 42, 32, 112, 97, 115, 115, 101, 100, 32, 111, 118, 101, 114, 10, 10]
abbrev po8 : Bs := [42, 32, 112, 97, 115, 115, 101, 100, 32, 111, 118, 101, 114]
/-- A line as it is written. -/
def txt (g : Bs) (l : Ln) : Bs := (if l.head then [] else g) ++ (jw g true (l.ws.map bs) ++ (g ++ tl8))
def bld (g : Bs) (ls : List Ln) : Bs := ls.flatMap (txt g)
/-- A line that may be. -/
def OkL (l : Ln) : Prop := l.ws ≠ [] ∧ (∀ w ∈ l.ws, Wd (bs w) ∧ Plain (bs w)) ∧ (l.head = true → ∀ w r, l.ws = w :: r → (bs w).headD 0 ≠ 42)
theorem fgn_ten : fgn (10 : UInt8).toNat = true := by decide
theorem Plain.no10 {x : Bs} (h : Plain x) : ∀ c ∈ x, c ≠ 10 := fun c hc e => by
  have := h c hc
  rw [e, fgn_ten] at this
  cases this
theorem trim_app (a b : Bs) : Lib.trimSuffix (a ++ b) b = a := by
  unfold Lib.trimSuffix Lib.hasSuffix
  rw [if_pos (List.isSuffixOf_iff_suffix.2 ⟨a, rfl⟩)]
  simp
theorem strip_crlf (x : Bs) : strip (x ++ [13] ++ [10]) = x := by
  unfold strip
  rw [trim_app, trim_app]
theorem Gp.plain {g : Bs} (h : Gp g) : Plain g := fun b hb => by rcases h.2.2 b hb with rfl | rfl <;> rfl
theorem Plain.app {x y : Bs} (h : Plain x) (k : Plain y) : Plain (x ++ y) := fun b hb => by
  rcases List.mem_append.1 hb with hb | hb
  · exact h b hb
  · exact k b hb
theorem po8_bad : badL (po8 ++ [10]) = false := by kernel_rfl
theorem po8_cnt : cnt (po8 ++ [10]) = false := by kernel_rfl
theorem po8_one (k : Nat) : one k (po8 ++ [10]) = [] := by unfold one; rw [po8_cnt]; rfl
theorem nl_bad : badL [10] = false := by kernel_rfl
theorem nl_cnt : cnt [10] = false := by kernel_rfl
theorem nl_one (k : Nat) : one k [10] = [] := by unfold one; rw [nl_cnt]; rfl
theorem po8_no : ∀ c ∈ po8, c ≠ 10 := by decide
/-- What is read of a line as it is written. -/
theorem txt_line {g : Bs} (hg : Gp g) {l : Ln} (h : OkL l) : ∃ x : Bs, (∀ c ∈ x ++ [13], c ≠ 10) ∧ (∀ r, txt g l ++ r = x ++ [13] ++ 10 :: (po8 ++ 10 :: ([] ++ 10 :: r))) ∧ badL (x ++ [13] ++ [10]) = false ∧ ∀ k, one k (x ++ [13] ++ [10]) = [⟨k, l.head, l.ws⟩] := by
  have hw : ∀ w ∈ l.ws.map bs, Wd w := fun w hw => by
    obtain ⟨v, hv, rfl⟩ := List.mem_map.1 hw
    exact (h.2.1 v hv).1
  have hn : l.ws.map bs ≠ [] := fun e => h.1 (List.map_eq_nil_iff.1 e)
  have hj : Plain (jw g true (l.ws.map bs) ++ g) := Plain.app (fun b hb => by
    rcases jw_mem _ _ b hb with hb | ⟨w, hw, hb⟩
    · exact hg.plain b hb
    · obtain ⟨v, hv, rfl⟩ := List.mem_map.1 hw
      exact (h.2.1 v hv).2 b hb) hg.plain
  have hx : Plain ((if l.head then [] else g) ++ (jw g true (l.ws.map bs) ++ g)) := Plain.app (by split; exact (fun b hb => by cases hb); exact hg.plain) hj
  refine ⟨(if l.head then [] else g) ++ (jw g true (l.ws.map bs) ++ g), fun c hc => ?_, fun r => by simp [txt], ?_, fun k => ?_⟩
  · rcases List.mem_append.1 hc with hc | hc
    · exact hx.no10 c hc
    · simp at hc; subst hc; decide
  · rw [bad_plain, strip_crlf]
    exact hx
  · have hwd : wds ((if l.head then [] else g) ++ (jw g true (l.ws.map bs) ++ g) ++ [13] ++ [10]) = l.ws := by
      unfold wds
      rw [strip_crlf, fields_toks _ (fun b hb => fgn_low (hx b hb)), show toks none ((if l.head then [] else g) ++ (jw g true (l.ws.map bs) ++ g)) = l.ws.map bs from by
        rw [toks_pre _ (by split; exact (fun b hb => by cases hb); exact hg.blk), jw_all hg hw hn]]
      rw [List.map_map]
      exact (List.map_congr_left (fun w hw => ba_bs w)).trans (List.map_id _)
    have hhd : hd ((if l.head then [] else g) ++ (jw g true (l.ws.map bs) ++ g) ++ [13] ++ [10]) ≠ 42 ∧ blk (hd ((if l.head then [] else g) ++ (jw g true (l.ws.map bs) ++ g) ++ [13] ++ [10])).toNat = !l.head := by
      unfold hd
      rw [strip_crlf]
      cases hl : l.head with
      | false =>
        cases g with
        | nil => exact absurd rfl hg.1
        | cons b g =>
          have hb := hg.2.2 b (by simp)
          simp only [Bool.false_eq_true, if_false, List.cons_append, List.headD_cons, Bool.not_false]
          rcases hb with rfl | rfl <;> exact ⟨by decide, rfl⟩
      | true =>
        cases hws : l.ws with
        | nil => exact absurd hws h.1
        | cons w r =>
          have h1 := h.2.2 hl w r hws
          have h2 := (h.2.1 w (by rw [hws]; simp)).1
          cases hbw : bs w with
          | nil => exact absurd hbw h2.1
          | cons b t =>
            have h3 := h2.2 b (by rw [hbw]; simp)
            rw [hbw] at h1
            simp only [if_true, List.map_cons, jw, List.nil_append, hbw, List.cons_append, List.headD_cons, Bool.not_true]
            exact ⟨h1, h3⟩
    unfold one cnt
    rw [hwd, hhd.2]
    have h1 : l.ws.isEmpty = false := by cases e : l.ws with
      | nil => exact absurd e h.1
      | cons a b => rfl
    rw [h1, decide_eq_false hhd.1]
    simp
def Ln.hw (l : Ln) : Bool × List ByteArray := (l.head, l.ws)
theorem bld_main {g : Bs} (hg : Gp g) : ∀ (ls : List Ln) (k : Nat), (∀ l ∈ ls, OkL l) → badAt k (lnsOf (bld g ls)) = none ∧ (good k (lnsOf (bld g ls))).map Ln.hw = ls.map Ln.hw ∧ (lnsOf (bld g ls)).length = 3 * ls.length
  | [], k, _ => ⟨rfl, rfl, rfl⟩
  | l :: ls, k, h => by
    have ih := bld_main hg ls (k + 1 + 1 + 1) (fun l hl => h l (by simp [hl]))
    obtain ⟨x, h1, h2, h3, h4⟩ := txt_line hg (h l (by simp))
    have e : lnsOf (bld g (l :: ls)) = (x ++ [13] ++ [10]) :: (po8 ++ [10]) :: [10] :: lnsOf (bld g ls) := by
      show lnsOf (txt g l ++ bld g ls) = _
      rw [h2, lnsOf_cut _ _ h1, lnsOf_cut _ _ po8_no, lnsOf_cut [] _ (fun c hc => by cases hc)]
      rfl
    rw [e]
    simp only [badAt, good, h3, h4, po8_bad, nl_bad, po8_one, nl_one, Bool.false_eq_true, if_false, List.nil_append, List.map_append, List.map_cons, List.map_nil, List.length_cons]
    refine ⟨ih.1, ?_, by rw [ih.2.2]; omega⟩
    rw [ih.2.1]
    rfl
/-- Lines that are read may be. -/
theorem good_ok : ∀ (k : Nat) (a : List Bs), badAt k a = none → ∀ l ∈ good k a, OkL l
  | k, [], _, l, h => by simp [good] at h
  | k, x :: a, hb, l, h => by
    simp only [badAt] at hb
    split at hb
    · cases hb
    · rename_i hbx
      simp only [good, List.mem_append] at h
      rcases h with h | h
      · have hp : Plain (strip x) := (bad_plain x).1 (by simpa using hbx)
        have hwd : wds x = (toks none (strip x)).map ba := fields_toks _ (fun b hb => fgn_low (hp b hb))
        unfold one at h
        split at h
        · rename_i hc
          simp at h
          subst h
          unfold cnt at hc
          simp at hc
          refine ⟨hc.1, fun w hw => ?_, fun hh w r e => ?_⟩
          · have hw : w ∈ wds x := hw
            rw [hwd] at hw
            obtain ⟨v, hv, rfl⟩ := List.mem_map.1 hw
            have h1 : bs (ba v) = v := by simp
            rw [h1]
            refine ⟨toks_wd _ none (fun c e => by cases e) v hv, fun b hb => ?_⟩
            rcases toks_mem _ none v hv b hb with hb | ⟨c, e, _⟩
            · exact hp b hb
            · cases e
          · have hh : (!blk (hd x).toNat) = true := hh
            have e : wds x = w :: r := e
            have h42 := hc.2
            unfold hd at hh h42
            cases hs : strip x with
            | nil =>
              rw [hwd, hs] at e
              cases e
            | cons b t =>
              rw [hs] at hh h42
              simp only [List.headD_cons] at hh h42
              have hb : blk b.toNat = false := by simpa using hh
              rw [hwd, hs, toks, if_neg (by rw [hb]; simp)] at e
              obtain ⟨w', r', e', t', ht⟩ := toks_first t [b]
              rw [e'] at e
              simp at e
              rw [← e.1, ht]
              exact h42
        · simp at h
      · exact good_ok (k + 1) a hb l h
theorem good_fit : ∀ (k : Nat) (a : List Bs) (M : Nat), badAt k a = none → (∀ x ∈ a, x.length ≤ M) → ∀ l ∈ good k a, l.ws.length ≤ M ∧ ∀ w ∈ l.ws, (bs w).length ≤ M
  | k, [], M, _, _, l, h => by simp [good] at h
  | k, x :: a, M, hb, hM, l, h => by
    simp only [badAt] at hb
    split at hb
    · cases hb
    · rename_i hbx
      simp only [good, List.mem_append] at h
      rcases h with h | h
      · have hp : Plain (strip x) := (bad_plain x).1 (by simpa using hbx)
        have hwd : wds x = (toks none (strip x)).map ba := fields_toks _ (fun b hb => fgn_low (hp b hb))
        have hl : (strip x).length ≤ M := by
          have h1 : ∀ s p : Bs, (Lib.trimSuffix s p).length ≤ s.length := fun s p => by
            unfold Lib.trimSuffix
            split
            · rw [List.length_take]; exact Nat.min_le_right _ _
            · exact Nat.le_refl _
          have h2 := h1 x [10]
          have h3 := h1 (Lib.trimSuffix x [10]) [13]
          have h4 := hM x (by simp)
          unfold strip
          omega
        unfold one at h
        split at h
        · simp at h
          subst h
          have ht := toks_len (strip x) none
          simp [stl] at ht
          show (wds x).length ≤ M ∧ ∀ w ∈ wds x, _
          rw [hwd]
          refine ⟨by rw [List.length_map]; omega, fun w hw => ?_⟩
          obtain ⟨v, hv, rfl⟩ := List.mem_map.1 hw
          have := ht.2 v hv
          simp
          omega
        · simp at h
      · exact good_fit (k + 1) a M hb (fun y hy => hM y (by simp [hy])) l h
theorem txt_fit {g : Bs} (hg : Gp g) {l : Ln} (h1 : l.ws.length ≤ 6000) (h2 : ∀ w ∈ l.ws, (bs w).length ≤ 6000) : (txt g l).length ≤ 40000000 := by
  have h3 := jw_len hg.2.1 (M := 6000) (l.ws.map bs) true (fun w hw => by
    obtain ⟨v, hv, rfl⟩ := List.mem_map.1 hw
    exact h2 v hv)
  have h4 : (if l.head then [] else g : Bs).length ≤ 3 := by split <;> simp [hg.2.1]
  have h5 := hg.2.1
  have h6 : (l.ws.map bs).length * (6000 + 3) ≤ 6000 * 6003 := by rw [List.length_map]; exact Nat.mul_le_mul_right _ h1
  simp only [txt, List.length_append]
  simp only [List.length_cons, List.length_nil]
  omega
theorem bld_fit {g : Bs} (hg : Gp g) : ∀ (ls : List Ln), (∀ l ∈ ls, l.ws.length ≤ 6000 ∧ ∀ w ∈ l.ws, (bs w).length ≤ 6000) → (bld g ls).length ≤ ls.length * 40000000
  | [], _ => by simp [bld]
  | l :: ls, h => by
    have ih := bld_fit hg ls (fun l hl => h l (by simp [hl]))
    have h1 := txt_fit hg (h l (by simp)).1 (h l (by simp)).2
    show (txt g l ++ bld g ls).length ≤ _
    rw [List.length_append, List.length_cons, Nat.add_mul]
    omega
theorem bld_snoc (g : Bs) (a : List Ln) (l : Ln) : bld g (a ++ [l]) = bld g a ++ txt g l := by simp [bld]
end Go.Proofs.Ytinbeodihhjfmaa
