/-
  Text of a fraction: the program's and the document's.
-/
import Derived.Test.YtajjpepjbflojaaGreatDoorRtx7
import Derived.Test.YtajjpepjbflojaaGreatDoorZrefE
import Derived.Test.YtajjpepjbflojaaGreatDoorRatQ6
import Derived.Test.YtajjpepjbflojaaGreatDoorRatM


namespace Go.Proofs.YtajjpepjbflojaaGreatDoor
open Go.RowKit Go.Proofs.YtajjpepjbflojaaGreatDoor.Num
set_option linter.unusedVariables false
set_option linter.unusedSimpArgs false
set_option maxRecDepth 100000

/-- A fraction's box as it stands. -/
def Rk (W : World) (g : Nat) (s : Bool) (u t : Value) : Prop := W.heap[g]? = some (rbox s u t)
theorem Rk.new (w : World) (s : Bool) (u t : Value) : Rk (w.alloc (rbox s u t)) w.heap.size s u t := heap_alloc_new w _
theorem Rk.lt {W : World} {g : Nat} {s : Bool} {u t : Value} (h : Rk W g s u t) : g < W.heap.size := by unfold Rk at h; exact (Array.getElem?_eq_some_iff.1 h).1
theorem Rk.step {W W' : World} {g : Nat} {s : Bool} {u t : Value} (h : Rk W g s u t) (hb : Below W.heap.size W W') : Rk W' g s u t := (hb.block g h.lt).trans h
theorem Rk.all {W : World} {g : Nat} {s : Bool} {u t : Value} (h : Rk W g s u t) : W.cell? ⟨g, 0, none⟩ = some (.bool s) ∧ W.cell? ⟨g, 1, none⟩ = some u ∧ W.cell? ⟨g, 2, none⟩ = some t ∧ W.frozen? ⟨g, 0, none⟩ = false ∧ W.frozen? ⟨g, 1, none⟩ = false ∧ W.frozen? ⟨g, 2, none⟩ = false :=
  ⟨cell_of_row W g 0 _ _ _ h, cell_of_row W g 1 _ _ _ h, cell_of_row W g 2 _ _ _ h, frozen_of_row W g 0 _ _ h, frozen_of_row W g 1 _ _ h, frozen_of_row W g 2 _ _ h⟩
theorem Rk.put {W : World} {g : Nat} {s : Bool} {u t : Value} (h : Rk W g s u t) (s' : Bool) (u' t' : Value) : Rk (((W.setCell ⟨g, 0, none⟩ (.bool s')).setCell ⟨g, 1, none⟩ u').setCell ⟨g, 2, none⟩ t') g s' u' t' := heap_setCell_same _ g 2 _ _ _ (heap_setCell_same _ g 1 _ _ _ (heap_setCell_same W g 0 _ _ _ h))
/-- A number does not lie in a box whose cells are a bool and slices. -/
theorem Rk.cwset {W : World} {g : Nat} {s : Bool} {A D : Option Addr} {n c m d : Nat} {v : Value} {x L : Nat} (h : Rk W g s (.slice A n c) (.slice D m d)) (hz : Cw W v x L) (s' : Bool) (u' t' : Value) : Cw (((W.setCell ⟨g, 0, none⟩ (.bool s')).setCell ⟨g, 1, none⟩ u').setCell ⟨g, 2, none⟩ t') v x L := by
  obtain ⟨B, k, e2, hr, h2⟩ := hz
  refine ⟨B, k, e2, ⟨hr.1, fun hn => ?_⟩, h2⟩
  obtain ⟨bb, off, e3, hb, hc⟩ := hr.2 hn
  refine ⟨bb, off, e3, by rw [World.size_setCell, World.size_setCell, World.size_setCell]; exact hb, fun j hj => ?_⟩
  have hne : bb ≠ g := by
    rintro rfl
    have h1 := hc 0 hn
    rw [Nat.add_zero, cell_of_row W bb off _ _ _ h] at h1
    match off, h1 with
    | 0, h1 => simp at h1
    | 1, h1 => simp at h1
    | 2, h1 => simp at h1
    | (q + 3), h1 => simp at h1
  rw [World.cell?_setCell_other _ _ _ _ (by intro h2; apply hne; injection h2 with h3; exact h3.symm), World.cell?_setCell_other _ _ _ _ (by intro h2; apply hne; injection h2 with h3; exact h3.symm), World.cell?_setCell_other _ _ _ _ (by intro h2; apply hne; injection h2 with h3; exact h3.symm)]
  exact hc j hj
theorem Rc.lets {w : World} {v : Value} {r : Rat} {L : Nat} (h : Rc w v r L) : ∃ s A n c D m d, v = rv s (.slice A n c) (.slice D m d) ∧ s = decide (r.num < 0) ∧ Cw w (.slice A n c) r.num.natAbs L ∧ Cw w (.slice D m d) r.den L := by
  obtain ⟨u, t, rfl, h1, h2⟩ := h
  obtain ⟨A, n, c, rfl⟩ := h1.nw.slice
  obtain ⟨D, m, d, rfl⟩ := h2.nw.slice
  exact ⟨_, A, n, c, D, m, d, rfl, rfl, h1, h2⟩

theorem ztxt_s {w : World} {u : Value} {a : Int} {L : Nat} {T : ByteArray} (hu : Za w u a L) (hT : T.data.toList = ztxt a) (hL : L ≤ 1000000000) :
    Calls Tryz.prog 20 #[u] w fun e w' => e = .returned (.string T) ∧ Below w.heap.size w w' :=
  (ztext_any hu hL).mono fun e w' ⟨he, hb⟩ => ⟨by rw [he]; congr 2; cases T with | mk d => rw [← hT], hb⟩
theorem qtxt_s {w : World} {v : Value} {z : Int} {L : Nat} {T : ByteArray} (h : Qi w v z L) (hT : T.data.toList = ztxt z) (hL : L ≤ 10000000000) :
    Calls Tryz.prog 21 #[v] w fun e w' => e = .returned (.string T) ∧ Below w.heap.size w w' :=
  (qtext_any h hL).mono fun e w' ⟨he, hb⟩ => ⟨by rw [he]; congr 2; cases T with | mk d => rw [← hT], hb⟩
theorem dtext_one (n : Nat) : dtext n = [49] ↔ n = 1 := by
  constructor
  · intro h
    have h1 := dval_dtext n
    rw [h] at h1
    exact h1.symm
  · rintro rfl; decide +kernel
theorem ztxt_len {z : Int} {L : Nat} (h : z.natAbs < Q ^ L) : (ztxt z).length ≤ 20 * L + 2 := by
  have h1 := dtext_len h
  unfold ztxt
  split
  · rw [List.length_cons]; omega
  · omega
/-- What Text leaves. -/
def RtRet (w : World) (r : Rat) (e : Ending) (w' : World) : Prop := ∃ S : ByteArray, e = .returned (.string S) ∧ Hid (S.data.toList = rtxt r) ∧ Below w.heap.size w w'

set_option maxHeartbeats 4000000 in
theorem rtext_r {w : World} {a : Value} {r : Rat} {L : Nat} (ha : Ra w a r L) (h1 : 1 ≤ L) (hL : L ≤ 1000000) : Calls Tryz.prog 9 #[a] w (RtRet w r) := by
  obtain ⟨s, A, n, c, D, m, d, x, y, rfl, hu, ht, hr⟩ := id ha.parts
  have b0 : Below w.heap.size w (w.alloc (rbox s (.slice A n c) (.slice D m d))) := (Below.refl _ _).alloc (Nat.le_refl _) _
  have FO := hide (form_q (ha.step b0) h1 (by omega))
  have K := hide (Rk.new w s (.slice A n c) (.slice D m d))
  have B := hide b0
  obtain ⟨p0, p1, p2, f0, f1, f2⟩ := K.out.all
  clear ha hu ht hr b0
  go_enter Tryz.func9, Tryz.ntmps9
  go_wp2_with fail
  refine FO.out.mono ?_
  rintro e w1 ⟨v1, rfl, c1, b1⟩
  have K := hide (K.out.step b1)
  have B := hide (Below.step B.out B.out.size b1)
  obtain ⟨sg, Ap, np, cp, Dp, mp, dp, rfl, hsg, cn1, cd1⟩ := c1.lets
  clear b1 c1 FO p0 p1 p2 f0 f1 f2
  have CN := hide (K.out.cwset cn1 sg (.slice Ap np cp) (.slice Dp mp dp))
  have CD := hide (K.out.cwset cd1 sg (.slice Ap np cp) (.slice Dp mp dp))
  have B2 := hide (((B.out.setCell (p := ⟨w.heap.size, 0, none⟩) (Nat.le_refl _) (.bool sg)).setCell (p := ⟨w.heap.size, 1, none⟩) (Nat.le_refl _) (.slice Ap np cp)).setCell (p := ⟨w.heap.size, 2, none⟩) (Nat.le_refl _) (.slice Dp mp dp))
  have K2 := hide (K.out.put sg (.slice Ap np cp) (.slice Dp mp dp))
  obtain ⟨p0, p1, p2, f0, f1, f2⟩ := K.out.all
  obtain ⟨T, hT⟩ : ∃ T : ByteArray, Tx T r.den := ⟨_, Tx.of r.den⟩
  obtain ⟨U, hU⟩ : ∃ U : ByteArray, U.data.toList = ztxt r.num := ⟨⟨(ztxt r.num).toArray⟩, rfl⟩
  have hts : T.size ≤ 20000001 := by
    have h2 := dtext_len (n := r.den) (L := L) CD.out.nw.lt
    rw [bsize, show T.data.toList = dtext r.den from hT]; omega
  have hus : U.size ≤ 20000002 := by
    have h2 := ztxt_len (z := r.num) (L := L) CN.out.nw.lt
    rw [bsize, hU]; omega
  have HS := hide hsg
  have HT := hide hT
  have HU := hide hU
  clear hsg hT hU cn1 cd1 K B
  go_wp2_with fail
  clear p0 p1 p2 f0 f1 f2
  generalize (((w1.setCell ⟨w.heap.size, 0, none⟩ (.bool sg)).setCell ⟨w.heap.size, 1, none⟩ (.slice Ap np cp)).setCell ⟨w.heap.size, 2, none⟩ (.slice Dp mp dp)) = w2 at *
  refine (text_s CD.out.nw HT.out (by omega)).mono ?_
  rintro e w3 ⟨rfl, b1⟩
  have K := hide (K2.out.step b1)
  have B := hide (Below.step B2.out B2.out.size b1)
  have ZT := hide (ztxt_s (w := w3) (T := U) (L := L) (show Za w3 (zv sg (.slice Ap np cp)) r.num L from ⟨sg, .slice Ap np cp, r.num.natAbs, rfl, CN.out.nw.step b1, by rw [HS.out]; exact zi_num r.num⟩) HU.out (by omega))
  obtain ⟨p0, p1, p2, f0, f1, f2⟩ := K.out.all
  clear K2 B2 CN CD b1 HS
  by_cases hd : r.den = 1
  · have t1 : (T.toList == [49]) = true := by rw [toList_data, show T.data.toList = dtext r.den from HT.out, (dtext_one _).2 hd]; rfl
    have FE := hide (show U.data.toList = rtxt r by unfold rtxt; rw [if_pos hd, List.append_nil]; exact HU.out)
    clear hd HT
    go_wp2_with fail
    refine ZT.out.mono ?_
    rintro e w4 ⟨rfl, b1⟩
    have B := hide (Below.step B.out B.out.size b1)
    clear b1 ZT p0 p1 p2 f0 f1 f2 K
    go_wp2_with fail
    go_ret
    exact ⟨U, rfl, FE, B.out⟩
  · have t1 : (T.toList == [49]) = false := by rw [toList_data, show T.data.toList = dtext r.den from HT.out]; exact beq_eq_false_iff_ne.2 (fun h => hd ((dtext_one _).1 h))
    have FE := hide (show (U ++ ⟨#[47]⟩ ++ T : ByteArray).data.toList = rtxt r by
      unfold rtxt
      rw [if_neg hd, cat_list, cat_list, HU.out, show T.data.toList = dtext r.den from HT.out, List.append_assoc]
      rfl)
    clear hd HT
    go_wp2_with fail
    refine ZT.out.mono ?_
    rintro e w4 ⟨rfl, b1⟩
    have B := hide (Below.step B.out B.out.size b1)
    clear b1 ZT p0 p1 p2 f0 f1 f2 K
    go_wp2_with fail
    go_ret
    exact ⟨_, rfl, FE, B.out⟩

/-! ### The document's -/
set_option maxHeartbeats 4000000 in
theorem qtext_r {w : World} {a : Value} {r : Rat} {L : Nat} (ha : Rf w a r L) (hL : L ≤ 1000000) : Calls Tryz.prog 10 #[a] w (RtRet w r) := by
  obtain ⟨s, A, n, c, D, m, d, rfl, ha⟩ := ha.parts
  have ha0 := ha
  obtain ⟨b1, p0, p1, p2⟩ := fqbox1 w s A n c D m d
  obtain ⟨hq, hd⟩ := ha.split
  obtain ⟨T, hT⟩ : ∃ T : ByteArray, Tx T r.den := ⟨_, Tx.of r.den⟩
  obtain ⟨U, hU⟩ : ∃ U : ByteArray, U.data.toList = ztxt r.num := ⟨⟨(ztxt r.num).toArray⟩, rfl⟩
  have hts : T.size ≤ 4000001 := by
    have h2 := rdtext_len (n := r.den) (L := L) (qiden_ic hd).iw.lt
    rw [bsize, show T.data.toList = dtext r.den from hT]; omega
  have hus : U.size ≤ 4000002 := by
    have h2 := rdtext_len (n := r.num.natAbs) (L := L) (by obtain ⟨u, e, h⟩ := hq; exact h.iw.lt)
    rw [bsize, hU]
    unfold ztxt
    split
    · rw [List.length_cons]; omega
    · omega
  have QT := hide (qtxt_s (hq.step b1) hU (by omega))
  have FR := hide (ha.step b1)
  have WH := hide (fun W (h : Rf W (rv s (.slice A n c) (.slice D m d)) r L) => rqwhole_any h (by omega))
  have RT := hide (fun W (h : Iw W (.slice D m d) r.den L) => rtext_s h hT (by omega))
  obtain ⟨k, hk⟩ : ∃ k, decide ((r.floor : Rat) = r) = k := ⟨_, rfl⟩
  rw [hk] at WH
  have FE := hide (show (k = true → U.data.toList = rtxt r) ∧ (k = false → (U ++ (⟨#[47]⟩ ++ T) : ByteArray).data.toList = rtxt r) by
    rw [← hk]
    constructor
    · intro h
      unfold rtxt
      rw [if_pos ((den_one r).2 (of_decide_eq_true h)), List.append_nil]
      exact hU
    · intro h
      unfold rtxt
      rw [if_neg (fun h2 => of_decide_eq_false h ((den_one r).1 h2)), cat_list, cat_list, hU, show T.data.toList = dtext r.den from hT]
      rfl)
  have B := hide b1
  have P := hide (And.intro p0 (And.intro p1 p2))
  clear ha ha0 hq hd hT hU hk b1
  go_enter Tryz.func10, Tryz.ntmps10
  go_wp2_with fail
  refine QT.out.mono ?_
  rintro e w1 ⟨rfl, b1⟩
  have FR := hide (FR.out.step b1)
  have B := hide (Below.step B.out B.out.size b1)
  replace P := hide (And.intro (cell_keep P.out.1 b1) (And.intro (cell_keep P.out.2.1 b1) (cell_keep P.out.2.2 b1)))
  clear b1 QT p0 p1 p2
  obtain ⟨p0, p1, p2⟩ := P.out
  go_wp2_with fail
  refine (WH.out _ FR.out).mono ?_
  rintro e w2 ⟨rfl, b1⟩
  have FR := hide (FR.out.step b1)
  have B := hide (Below.step B.out B.out.size b1)
  replace P := hide (And.intro (cell_keep P.out.1 b1) (And.intro (cell_keep P.out.2.1 b1) (cell_keep P.out.2.2 b1)))
  clear b1 WH p0 p1 p2
  obtain ⟨p0, p1, p2⟩ := P.out
  cases k
  · replace FE := hide (FE.out.2 rfl)
    go_wp2_with fail
    refine (RT.out _ (qiden_ic FR.out.split.2).iw).mono ?_
    rintro e w3 ⟨rfl, b1⟩
    have B := hide (Below.step B.out B.out.size b1)
    clear b1 RT FR P p0 p1 p2
    go_wp2_with fail
    go_ret
    exact ⟨_, rfl, FE, B.out⟩
  · replace FE := hide (FE.out.1 rfl)
    clear RT FR P p0 p1 p2
    go_wp2_with fail
    go_ret
    exact ⟨_, rfl, FE, B.out⟩
end Go.Proofs.YtajjpepjbflojaaGreatDoor
