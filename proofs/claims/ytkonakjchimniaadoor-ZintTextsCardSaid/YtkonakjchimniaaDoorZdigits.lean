/-
  The walk of ZintDigits: true.
-/
import Derived.Test.YtkonakjchimniaaDoorBundleE

namespace Go.Proofs.YtkonakjchimniaaDoor
open Go.RowKit Go.Proofs.YtkonakjchimniaaDoor.Num
set_option linter.unusedVariables false
set_option maxRecDepth 100000

theorem dtext_cons (n : Nat) : ∃ b l, dtext n = b :: l ∧ b ≠ 45 ∧ b ≠ 43 := by
  cases h : dtext n with
  | nil => exact absurd h (dtext_ne n)
  | cons b l =>
    have h1 := allDig_mem (allDig_dtext n) (b := b) (by rw [h]; exact List.mem_cons_self)
    refine ⟨b, l, rfl, ?_, ?_⟩ <;> (rintro rfl; revert h1; decide)
theorem zrest_ztxt (a : Int) : zrest (ztxt a) = dtext a.natAbs ∧ zsign (ztxt a) = decide (a < 0) := by
  unfold ztxt
  by_cases h : a < 0
  · rw [if_pos h, decide_eq_true h]
    exact ⟨rfl, rfl⟩
  · rw [if_neg h, decide_eq_false h]
    obtain ⟨b, l, e, h1, h2⟩ := dtext_cons a.natAbs
    rw [e]
    unfold zrest zsign
    constructor
    · split
      · rename_i h3; injection h3 with h3 h4; exact absurd h3 h1
      · rename_i h3; injection h3 with h3 h4; exact absurd h3 h2
      · rfl
    · split
      · rename_i h3; injection h3 with h3 h4; exact absurd h3 h1
      · rfl
theorem zval_ztxt (a : Int) : zval (ztxt a) = a := by
  unfold zval
  obtain ⟨h1, h2⟩ := zrest_ztxt a
  rw [h1, h2, dval_dtext]
  unfold zi
  by_cases h : a < 0
  · rw [decide_eq_true h]; simp only [if_true]; omega
  · rw [decide_eq_false h]; simp only [Bool.false_eq_true, if_false]; omega
theorem zpcode_ztxt (a : Int) : zpcode (ztxt a) = if 200 < (dtext a.natAbs).length then 1 else 0 := by
  unfold zpcode
  rw [(zrest_ztxt a).1, pcode_dtext]
theorem ztxt_len (a : Int) : (ztxt a).length = (dtext a.natAbs).length + (if a < 0 then 1 else 0) := by
  unfold ztxt
  split <;> simp
theorem zparse_long {w : World} {a : Int} {S : ByteArray} (hS : S.data.toList = ztxt a) (hl : 200 < (dtext a.natAbs).length) (hm : S.size ≤ 9223372036854775807) :
    Calls Tryd.prog 42 #[.string S] w fun e w' => e = .returned (.tuple #[zv false (.slice none 0 0), .int .i64 1]) ∧ Below w.heap.size w w' := by
  have hc : zpcode S.data.toList = 1 := by rw [hS, zpcode_ztxt, if_pos hl]
  refine (zparse_any S w hm).mono fun e w' ⟨h1, _, hb⟩ => ⟨?_, hb⟩
  rw [h1 (by rw [hc]; omega), hc]
  rfl
theorem zparse_short {w : World} {a : Int} {S : ByteArray} (hS : S.data.toList = ztxt a) (hl : (dtext a.natAbs).length ≤ 200) (hm : S.size ≤ 9223372036854775807) :
    Calls Tryd.prog 42 #[.string S] w fun e w' => ∃ v, e = .returned (.tuple #[v, .int .i64 0]) ∧ Zi w' v a 200 ∧ Below w.heap.size w w' := by
  have hc : zpcode S.data.toList = 0 := by rw [hS, zpcode_ztxt, if_neg (by omega)]
  refine (zparse_any S w hm).mono fun e w' ⟨_, h2, hb⟩ => ?_
  obtain ⟨v, he, hz⟩ := h2 hc
  rw [hS, zval_ztxt] at hz
  exact ⟨v, he, hz, hb⟩
theorem ztext_s {w : World} {u : Value} {a : Int} {L : Nat} {S : ByteArray} (hu : Za w u a L) (hS : S.data.toList = ztxt a) (hL : L ≤ 1000000000) :
    Calls Tryd.prog 44 #[u] w fun e w' => e = .returned (.string S) ∧ Below w.heap.size w w' := by
  refine (ztext_any hu hL).mono fun e w' ⟨he, hb⟩ => ⟨?_, hb⟩
  rw [he]
  congr 2
  cases S with
  | mk d => rw [← hS]

set_option maxHeartbeats 8000000 in
theorem zdigits_true (w : World) (s : Bool) (u : Value) (x : Nat) (hu : Nw w u x 17592186043904) :
    Calls Tryd.prog 10 #[zv s u] w fun e w' => e = .returned (.bool true) ∧ Below w.heap.size w w' := by
  obtain ⟨A, n, c, xs, rfl, rx, dx, h1, h2, hx, -⟩ := hu
  obtain ⟨b1, y1⟩ := box1 w s A n c
  by_cases hg : 90 < n
  · have t1 : decide ((90 : Int) < (n : Int)) = true := decide_eq_true (by omega)
    have B := hide b1
    clear rx dx h1 h2 hx b1
    go_enter Tryd.func10, Tryd.ntmps10
    go_wp2_with fail
    refine (zspeaks_true _).mono ?_
    rintro e w1 ⟨rfl, b2⟩
    have p1 := (y1.step b2).2
    have B := hide (Below.step B.out B.out.size b2)
    clear b2 y1
    go_wp2_with fail
    go_ret
    exact ⟨rfl, B.out⟩
  · have t1 : decide ((90 : Int) < (n : Int)) = false := decide_eq_false (by omega)
    have hn : Nw w (.slice A n c) x 90 := ⟨A, n, c, xs, rfl, rx, dx, h1, h2, hx, by omega⟩
    clear rx dx h1 h2 hx hg
    obtain ⟨a, ha⟩ : ∃ a, zi s x = a := ⟨_, rfl⟩
    have hab : a.natAbs = x := by rw [← ha, zi_abs]
    have za : Za w (zv s (.slice A n c)) a 90 := ha ▸ Za.of hn
    have ZA := hide (za.step b1)
    have hdl := dtext_len hn.lt
    rw [← hab] at hdl
    obtain ⟨S, hS⟩ : ∃ S : ByteArray, S.data.toList = ztxt a := ⟨⟨(ztxt a).toArray⟩, by simp⟩
    have hsz : S.size = (ztxt a).length := by rw [← hS, Array.length_toList]; rfl
    rw [ztxt_len] at hsz
    have hsb : S.size ≤ 1802 := by split at hsz <;> omega
    have HS := hide hS
    have B := hide b1
    clear hn ha za b1 hab
    by_cases hd : 200 < (dtext a.natAbs).length
    · have PL := fun W => zparse_long (w := W) hS hd (by omega)
      have HPL := hide PL
      by_cases hl : 201 < S.size
      · have t2 : decide ((201 : Int) < (S.size : Int)) = true := decide_eq_true (by omega)
        clear hdl hsz hS PL hd hl
        go_enter Tryd.func10, Tryd.ntmps10
        go_wp2_with fail
        refine (zspeaks_true _).mono ?_
        rintro e w1 ⟨rfl, b2⟩
        have y2 := y1.step b2
        have p0 := y2.1
        have p1 := y2.2
        have ZA := hide (ZA.out.step b2)
        have B := hide (Below.step B.out B.out.size b2)
        clear b2 y1 y2
        go_wp2_with fail
        refine (ztext_s ZA.out HS.out (by omega)).mono ?_
        rintro e w2 ⟨rfl, b2⟩
        have B := hide (Below.step B.out B.out.size b2)
        clear b2 p0 p1 ZA
        go_wp2_with fail
        refine (HPL.out _).mono ?_
        rintro e w3 ⟨rfl, b2⟩
        have B := hide ((Below.step B.out B.out.size b2).alloc (Below.step B.out B.out.size b2).size (zbox false (.slice none 0 0)))
        clear b2
        go_wp2_with fail
        go_ret
        exact ⟨rfl, B.out⟩
      · have t2 : decide ((201 : Int) < (S.size : Int)) = false := decide_eq_false (by omega)
        have hap : ¬ a < 0 := by intro h; rw [if_pos h] at hsz; omega
        have h201 : S.size = 201 := by rw [if_neg hap] at hsz; omega
        have h0 : 0 < S.size := by omega
        have hy : ∃ y : Nat, (S[0]'h0).toNat = y ∧ y ≠ 45 := by
          refine ⟨_, rfl, ?_⟩
          obtain ⟨b, l, e, hb45, _⟩ := dtext_cons a.natAbs
          have h3 : S.data.toList = b :: l := by rw [hS]; unfold ztxt; rw [if_neg hap, e]
          have h4 : S[0]'h0 = S.data.toList[0]'(by rw [h3]; simp) := rfl
          rw [h4]
          simp only [h3, List.getElem_cons_zero]
          intro h5
          apply hb45
          have : b = UInt8.ofNat b.toNat := by simp
          rw [this, h5]
          rfl
        obtain ⟨y, hy, hy45⟩ := hy
        have hb : (((y : Int) != 45)) = true := by rw [bne_iff_ne]; omega
        have t3 : ((S.size : Int) == 201) = true := by rw [beq_iff_eq]; omega
        clear hdl hsz hS PL hd hl hap hy45
        go_enter Tryd.func10, Tryd.ntmps10
        go_wp2_with fail
        refine (zspeaks_true _).mono ?_
        rintro e w1 ⟨rfl, b2⟩
        have y2 := y1.step b2
        have p0 := y2.1
        have p1 := y2.2
        have ZA := hide (ZA.out.step b2)
        have B := hide (Below.step B.out B.out.size b2)
        clear b2 y1 y2
        go_wp2_with fail
        refine (ztext_s ZA.out HS.out (by omega)).mono ?_
        rintro e w2 ⟨rfl, b2⟩
        have B := hide (Below.step B.out B.out.size b2)
        clear b2 p0 p1 ZA
        go_wp2_with fail
        refine (HPL.out _).mono ?_
        rintro e w3 ⟨rfl, b2⟩
        have B := hide ((Below.step B.out B.out.size b2).alloc (Below.step B.out B.out.size b2).size (zbox false (.slice none 0 0)))
        clear b2
        go_wp2_with fail
        go_ret
        exact ⟨rfl, B.out⟩
    · have PS := fun W => zparse_short (w := W) hS (Nat.le_of_not_lt hd) (by omega)
      have HPS := hide PS
      have t2 : decide ((201 : Int) < (S.size : Int)) = false := decide_eq_false (by split at hsz <;> omega)
      have hcz : Hid (cmpZ a a = 0) := hide (by unfold cmpZ; rw [if_neg (by omega), if_neg (by omega)])
      clear hdl hsz hS PS hd
      go_enter Tryd.func10, Tryd.ntmps10
      go_wp2_with fail
      refine (zspeaks_true _).mono ?_
      rintro e w1 ⟨rfl, b2⟩
      have y2 := y1.step b2
      have p0 := y2.1
      have p1 := y2.2
      have ZA := hide (ZA.out.step b2)
      have B := hide (Below.step B.out B.out.size b2)
      clear b2 y1 y2
      go_wp2_with fail
      refine (ztext_s ZA.out HS.out (by omega)).mono ?_
      rintro e w2 ⟨rfl, b2⟩
      have B := hide (Below.step B.out B.out.size b2)
      have ZA := hide (ZA.out.step b2)
      have p0 := cell_keep p0 b2
      have p1 := cell_keep p1 b2
      clear b2
      go_wp2_with fail
      refine (HPS.out _).mono ?_
      rintro e w3 ⟨bv, rfl, zb, b2⟩
      obtain ⟨D, m, d, rfl, -⟩ := zb.lw (by omega)
      obtain ⟨t, ht⟩ : ∃ t, decide (a < 0) = t := ⟨_, rfl⟩
      rw [ht] at zb
      rw [ht]
      obtain ⟨b3, y3⟩ := box1 w3 t D m d
      have b4 := Below.step b2 b2.size b3
      have B := hide (Below.step B.out B.out.size b4)
      have ZA := hide (ZA.out.step b4)
      have ZB := hide (zb.za.step b3)
      have p0 := cell_keep p0 b4
      have p1 := cell_keep p1 b4
      have p2 := y3.1
      have p3 := y3.2
      clear b2 b3 b4 y3 zb
      go_wp2_with fail
      generalize hw4 : w3.alloc (.cells #[.bool t, .slice D m d] 39) = w4 at *
      generalize w3.heap.size = g at *
      refine (zcmp_any ZA.out ZB.out (by omega) (by omega)).mono ?_
      rw [hcz.out]
      rintro e w5 ⟨rfl, b2⟩
      have B := hide (Below.step B.out B.out.size b2)
      have ZB := hide (ZB.out.step b2)
      have p2 := cell_keep p2 b2
      have p3 := cell_keep p3 b2
      clear b2 p0 p1 ZA hw4
      go_wp2_with fail
      refine (ztext_s ZB.out HS.out (by omega)).mono ?_
      rintro e w6 ⟨rfl, b2⟩
      have B := hide (Below.step B.out B.out.size b2)
      clear b2 p2 p3 ZB
      go_wp2_with fail
      go_ret
      exact ⟨rfl, B.out⟩
end Go.Proofs.YtkonakjchimniaaDoor
