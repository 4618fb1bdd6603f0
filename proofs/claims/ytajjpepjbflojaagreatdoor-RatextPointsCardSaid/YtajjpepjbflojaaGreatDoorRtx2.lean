/-
  ratext's reader: it takes a text from its beginning on.
-/
import Derived.Test.YtajjpepjbflojaaGreatDoorRtx1
import Derived.Test.YtajjpepjbflojaaGreatDoorShelf
import Derived.Deep.RegionHeld3


namespace Go.Proofs.YtajjpepjbflojaaGreatDoor
open Go.RowKit Go.Proofs.YtajjpepjbflojaaGreatDoor.Num
set_option linter.unusedVariables false
set_option maxRecDepth 100000

abbrev rdblk (T : ByteArray) (b : Bool) : Obj := .cells #[.string T, .bool b] 83
def RdB (w : World) (g : Nat) (T : ByteArray) (b : Bool) : Prop := w.heap[g]? = some (rdblk T b)
theorem RdB.c0 {w : World} {g : Nat} {T : ByteArray} {b : Bool} (h : RdB w g T b) : w.cell? ⟨g, 0, none⟩ = some (.string T) := cell_of_row w g 0 _ _ _ h
theorem RdB.c1 {w : World} {g : Nat} {T : ByteArray} {b : Bool} (h : RdB w g T b) : w.cell? ⟨g, 1, none⟩ = some (.bool b) := cell_of_row w g 1 _ _ _ h
theorem RdB.fz {w : World} {g : Nat} {T : ByteArray} {b : Bool} (h : RdB w g T b) (j : Nat) : w.frozen? ⟨g, j, none⟩ = false := frozen_of_row w g j _ _ h
theorem RdB.set0 {w : World} {g : Nat} {T : ByteArray} {b : Bool} (h : RdB w g T b) (U : ByteArray) : RdB (w.setCell ⟨g, 0, none⟩ (.string U)) g U b := heap_setCell_same w g 0 _ _ _ h
theorem RdB.set1 {w : World} {g : Nat} {T : ByteArray} {b : Bool} (h : RdB w g T b) (c : Bool) : RdB (w.setCell ⟨g, 1, none⟩ (.bool c)) g T c := heap_setCell_same w g 1 _ _ _ h
theorem RdB.lt {w : World} {g : Nat} {T : ByteArray} {b : Bool} (h : RdB w g T b) : g < w.heap.size := by unfold RdB at h; exact (Array.getElem?_eq_some_iff.1 h).1
theorem RdB.step {w w' : World} {g : Nat} {T : ByteArray} {b : Bool} (h : RdB w g T b) (hb : Below w.heap.size w w') : RdB w' g T b := (hb.block g h.lt).trans h
theorem grown_set (w : World) (g j : Nat) (v : Value) : w.grownBy (w.setCell ⟨g, j, none⟩ v) (some g) :=
  ⟨rfl, rfl, rfl, by rw [World.size_setCell]; exact Nat.le_refl _, fun k hk hne => Below.heap_setCell w ⟨g, j, none⟩ v k (fun e => hne (by rw [e]))⟩

theorem ext_take (T : ByteArray) (n : Nat) : (T.extract 0 n).data.toList = T.data.toList.take n := by rw [ByteArray.data_extract]; simp
theorem ext_drop (T : ByteArray) (n : Nat) : (T.extract n T.size).data.toList = T.data.toList.drop n := by
  rw [ByteArray.data_extract, Array.toList_extract, List.extract_eq_take_drop]
  exact List.take_of_length_le (by rw [List.length_drop, Array.length_toList]; exact Nat.le_refl _)
theorem bsize (T : ByteArray) : T.size = T.data.toList.length := by rw [Array.length_toList]; rfl

/-- What a reader's step leaves: what was taken, and what is left. -/
def TkOut (w : World) (g : Nat) (a r : List UInt8) (b : Bool) (e : Ending) (w' : World) : Prop :=
  ∃ A B : ByteArray, e = .returned (.string A) ∧ A.data.toList = a ∧ B.data.toList = r ∧ RdB w' g B b ∧ w.grownBy w' (some g)

set_option maxHeartbeats 1000000 in
theorem take_any {w : World} {g n : Nat} {T : ByteArray} {b : Bool} (h : RdB w g T b) (hn : n ≤ T.size) (hT : T.size ≤ 9223372036854775807) :
    Calls Tryz.prog 68 #[.pointer (some ⟨g, 0, none⟩), .int .i64 (n : Int)] w (TkOut w g (T.data.toList.take n) (T.data.toList.drop n) b) := by
  have p0 := h.c0
  have f0 := h.fz 0
  have H := hide h
  clear h
  go_enter Tryz.func68, Tryz.ntmps68
  go_wp2_with fail
  go_ret
  exact ⟨_, _, rfl, ext_take T n, ext_drop T n, H.out.set0 _, grown_set _ _ _ _⟩

/-! ### One byte -/
theorem ib_mem : ∀ (l : List UInt8) (c : UInt8), (l.contains c = true → 0 ≤ Lib.indexByte l c) ∧ (l.contains c = false → Lib.indexByte l c = -1)
  | [], c => ⟨fun h => by simp at h, fun _ => rfl⟩
  | b :: l, c => by
    have ih := ib_mem l c
    rw [List.contains_cons]
    unfold Lib.indexByte
    by_cases hbc : b = c
    · subst hbc
      simp
    · have e1 : (b == c) = false := beq_eq_false_iff_ne.2 hbc
      have e2 : (c == b) = false := beq_eq_false_iff_ne.2 (Ne.symm hbc)
      rw [e1, e2, Bool.false_or, if_neg (by simp)]
      have := Lib.indexByte_ge l c
      constructor
      · intro h
        have h1 := ih.1 h
        have e3 : (Lib.indexByte l c == -1) = false := beq_eq_false_iff_ne.2 (by omega)
        rw [e3, if_neg (by simp)]; omega
      · intro h
        rw [ih.2 h]; rfl
theorem byte_back (c : UInt8) : ((c.toNat : Int)).toNat.toUInt8 = c := by
  rw [Int.toNat_natCast]
  exact UInt8.ofNat_toNat
theorem ib_yes {Z : ByteArray} {c : UInt8} (h : Z.data.toList.contains c = true) (w : World) :
    Calls Tryz.prog 67 #[.string Z, .int .u8 (c.toNat : Int)] w fun e w' => ∃ k : Int, e = .returned (.int .i64 k) ∧ decide (k < 0) = false ∧ w = w' :=
  (Tryz.strings_IndexByte Z _ w).mono fun e w' ⟨h1, h2⟩ => ⟨_, h1, by rw [byte_back]; exact decide_eq_false (by have := (ib_mem _ _).1 h; omega), h2.symm⟩
theorem ib_no {Z : ByteArray} {c : UInt8} (h : Z.data.toList.contains c = false) (w : World) :
    Calls Tryz.prog 67 #[.string Z, .int .u8 (c.toNat : Int)] w fun e w' => ∃ k : Int, e = .returned (.int .i64 k) ∧ decide (k < 0) = true ∧ w = w' :=
  (Tryz.strings_IndexByte Z _ w).mono fun e w' ⟨h1, h2⟩ => ⟨_, h1, by rw [byte_back, (ib_mem _ _).2 h]; rfl, h2.symm⟩

set_option maxHeartbeats 1000000 in
theorem one_any {w : World} {g : Nat} {T Z : ByteArray} {l : List UInt8} {b : Bool} (h : RdB w g T b) (hl : T.data.toList = l) (hT : T.size ≤ 9223372036854775807) :
    Calls Tryz.prog 48 #[.pointer (some ⟨g, 0, none⟩), .string Z] w (TkOut w g (oneT Z.data.toList l) (oneR Z.data.toList l) b) := by
  have p0 := h.c0
  have H := hide h
  clear h
  cases l with
  | nil =>
    have e1 : T.toList.isEmpty = true := by rw [toList_data, hl]; rfl
    have R := hide (show TkOut w g (oneT Z.data.toList []) (oneR Z.data.toList []) b (.returned (.string ⟨#[]⟩)) w from ⟨⟨#[]⟩, T, rfl, rfl, hl, H.out, World.grownBy.refl _ _⟩)
    clear hl
    go_enter Tryz.func48, Tryz.ntmps48
    go_wp2_with fail
    go_ret
    exact R.out
  | cons c r =>
    have e1 : T.toList.isEmpty = false := by rw [toList_data, hl]; rfl
    have hsz : 0 < T.size := by rw [bsize, hl]; simp
    have hc : T[0]'hsz = c := by
      have h1 : T[0]'hsz = T.data.toList[0]'(by rw [hl]; simp) := rfl
      rw [h1]
      simp only [hl, List.getElem_cons_zero]
    obtain ⟨y, hy⟩ : ∃ y, (T[0]'hsz).toNat = y := ⟨_, rfl⟩
    have hyc : c.toNat = y := by rw [← hc]; exact hy
    by_cases hz : Z.data.toList.contains c = true
    · have IB := hide (ib_yes hz)
      have hin : inS Z.data.toList (c :: r) = true := hz
      have TK := hide (take_any (n := 1) H.out hsz hT)
      have E := hide (show T.data.toList.take 1 = oneT Z.data.toList (c :: r) ∧ T.data.toList.drop 1 = oneR Z.data.toList (c :: r) by unfold oneT oneR; rw [hin, hl]; exact ⟨rfl, rfl⟩)
      rw [E.out.1, E.out.2, Int.natCast_one] at TK
      rw [hyc] at IB
      clear hl hc hyc hz hin E H hT
      go_enter Tryz.func48, Tryz.ntmps48
      go_wp2_with fail
      refine (IB.out _).mono ?_
      rintro e w1 ⟨k, rfl, hk, rfl⟩
      go_wp2_with fail
      refine TK.out.mono ?_
      rintro e w1 ⟨A, B, rfl, hr⟩
      have R := hide hr
      clear hr
      go_wp2_with fail
      go_ret
      exact ⟨A, B, rfl, R.out⟩
    · have hz : Z.data.toList.contains c = false := by simpa using hz
      have IB := hide (ib_no hz)
      have hin : inS Z.data.toList (c :: r) = false := hz
      have R := hide (show TkOut w g (oneT Z.data.toList (c :: r)) (oneR Z.data.toList (c :: r)) b (.returned (.string ⟨#[]⟩)) w from
        ⟨⟨#[]⟩, T, rfl, by unfold oneT; rw [hin]; rfl, by unfold oneR; rw [hin, hl]; rfl, H.out, World.grownBy.refl _ _⟩)
      rw [hyc] at IB
      clear hl hc hyc hz hin
      go_enter Tryz.func48, Tryz.ntmps48
      go_wp2_with fail
      refine (IB.out _).mono ?_
      rintro e w1 ⟨k, rfl, hk, rfl⟩
      go_wp2_with fail
      go_ret
      exact R.out

/-! ### All digits -/
theorem set_dgB (b : UInt8) : ([48, 49, 50, 51, 52, 53, 54, 55, 56, 57] : List UInt8).contains b = dgB b := digSet_iff b
theorem tl_any {T : ByteArray} {l : List UInt8} (hl : T.data.toList = l) (w : World) :
    Calls Tryz.prog 69 #[.string T, .string ⟨#[48, 49, 50, 51, 52, 53, 54, 55, 56, 57]⟩] w fun e w' => ∃ R : ByteArray, e = .returned (.string R) ∧ Hid (R.size = (dw l).length) ∧ Below w.heap.size w w' :=
  (Tryz.strings_TrimLeft_digits T w).mono fun e w' ⟨h1, h2⟩ => ⟨_, h1, hide (by
    rw [hl, bsize]
    unfold Lib.trimLeftS dw
    rw [show (fun x : UInt8 => ([48, 49, 50, 51, 52, 53, 54, 55, 56, 57] : List UInt8).contains x) = dgB from funext set_dgB]), h2⟩
theorem gb_trans {a b c : World} {r : Option Nat} (h : a.grownBy b r) (k : b.grownBy c r) : a.grownBy c r :=
  ⟨k.os.trans h.os, k.tape.trans h.tape, k.output.trans h.output, Nat.le_trans h.size k.size, fun i hi hne => (k.block i (Nat.lt_of_lt_of_le hi h.size) hne).trans (h.block i hi hne)⟩
theorem gb_below {a b : World} {r : Option Nat} (h : Below a.heap.size a b) : a.grownBy b r := ⟨h.os, h.tape, h.output, h.size, fun i hi _ => h.block i hi⟩
theorem TkOut.after {w w2 w3 : World} {g : Nat} {a r : List UInt8} {b : Bool} {e : Ending} (h : TkOut w2 g a r b e w3) (b2 : w.grownBy w2 (some g)) : TkOut w g a r b e w3 := by
  obtain ⟨A, B, h1, h2, h3, h4, h5⟩ := h
  refine ⟨A, B, h1, h2, h3, h4, ?_⟩
  exact gb_trans b2 h5

set_option maxHeartbeats 2000000 in
theorem digits_any {w : World} {g : Nat} {T : ByteArray} {l : List UInt8} {b : Bool} (h : RdB w g T b) (hl : T.data.toList = l) (hT : T.size ≤ 9223372036854775807) :
    Calls Tryz.prog 49 #[.pointer (some ⟨g, 0, none⟩)] w (TkOut w g (tw l) (dw l) (b || (tw l).isEmpty)) := by
  have p0 := h.c0
  have HB := hide h
  have PD := hide (show w.drew.cell? ⟨g, 0, none⟩ = some (.string T) from p0)
  have hlen : (tw l).length + (dw l).length = T.size := by rw [bsize, hl, ← List.length_append, tw_dw]
  obtain ⟨n, hn⟩ : ∃ n, (tw l).length = n := ⟨_, rfl⟩
  obtain ⟨k, hk⟩ : ∃ k : Bool, ((n : Int) == 0) = k := ⟨_, rfl⟩
  have hke : (tw l).isEmpty = k := by
    rw [← hk, ← hn]
    cases tw l with
    | nil => rfl
    | cons => rw [List.length_cons]; exact (beq_eq_false_iff_ne.2 (by omega)).symm
  have TL := hide (tl_any hl)
  have hnT : n ≤ T.size := by omega
  have E := hide (show T.data.toList.take n = tw l ∧ T.data.toList.drop n = dw l by
    have h0 : T.data.toList = tw l ++ dw l := by rw [hl, tw_dw]
    rw [h0, ← hn]
    exact ⟨List.take_left, List.drop_left⟩)
  have K := hide hke
  have W := hide (fun R : ByteArray => fun hR : R.size = (dw l).length => (show IntKind.i64.wrap ((T.size : Int) - (R.size : Int)) = (n : Int) by rw [hR]; exact (IntWalk.i64_in _ (by omega)).trans (by omega)))
  have HT := hide hT
  rw [hke]
  clear hl hlen hn hke h hT
  go_enter Tryz.func49, Tryz.ntmps49
  go_wp2_with fail
  go_region_held3 (fun W => W.cell? ⟨g, 0, none⟩ = some (.string T)) (first | exact q0 | exact p0) (first
    | (go_at_call 69; refine Calls.mono (TL.out _) ?_; rintro e wx ⟨R, rfl, hR, bx⟩; have hw := W.out R hR.out; have q0 := cell_keep PD.out bx))
  all_goals
    have b1 := (Below.refl w.heap.size w).drew.trans bx
    have q1 := (HB.out.step b1).c1
    have f1 := (HB.out.step b1).fz 1
    have TK := hide (fun c => take_any ((HB.out.step b1).set1 c) hnT HT.out)
    rw [E.out.1, E.out.2] at TK
    have G := hide (fun c => gb_trans (gb_below b1) (grown_set wx g 1 (.bool c)))
    clear E W K HT bx b1 hR hw q0 p0 PD TL HB
    cases b
    · go_wp2_with fail
      refine (TK.out _).mono ?_
      rintro e w1 ⟨A, B, rfl, hr⟩
      have R := hide (TkOut.after ⟨A, B, rfl, hr⟩ (G.out _))
      clear hr G
      go_wp2_with fail
      go_ret
      exact R.out
    · go_wp2_with fail
      refine (TK.out _).mono ?_
      rintro e w1 ⟨A, B, rfl, hr⟩
      have R := hide (TkOut.after ⟨A, B, rfl, hr⟩ (G.out _))
      clear hr G
      go_wp2_with fail
      go_ret
      exact R.out

set_option maxHeartbeats 1000000 in
theorem done_any {w : World} {g : Nat} {T : ByteArray} {l : List UInt8} {b : Bool} (h : RdB w g T b) (hl : T.data.toList = l) :
    Calls Tryz.prog 50 #[.pointer (some ⟨g, 0, none⟩)] w fun e w' => e = .returned (.bool (l.isEmpty && !b)) ∧ w = w' := by
  have p0 := h.c0
  have p1 := h.c1
  have e1 : T.toList.isEmpty = l.isEmpty := by rw [toList_data, hl]
  clear h hl
  obtain ⟨k, hk⟩ : ∃ k, l.isEmpty = k := ⟨_, rfl⟩
  rw [hk] at e1 ⊢
  clear hk
  cases k <;> cases b
  all_goals
    go_enter Tryz.func50, Tryz.ntmps50
    go_wp2_with fail
    go_ret
    exact ⟨rfl, rfl⟩
end Go.Proofs.YtajjpepjbflojaaGreatDoor
