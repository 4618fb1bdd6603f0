/-
  Parse.
-/
import Derived.Test.YtajjpepjbflojaaGreatDoorRtx6

namespace Go.Proofs.YtajjpepjbflojaaGreatDoor
open Go.RowKit Go.Proofs.YtajjpepjbflojaaGreatDoor.Num
set_option linter.unusedVariables false
set_option linter.unusedSimpArgs false
set_option maxRecDepth 100000

theorem tw_len (l : List UInt8) : (tw l).length ≤ l.length := by have h := congrArg List.length (tw_dw l); rw [List.length_append] at h; omega
theorem oneT_sg (l : List UInt8) : oneT SG l = [] ∨ oneT SG l = [43] ∨ oneT SG l = [45] := by
  unfold oneT
  cases h : inS SG l
  · exact Or.inl rfl
  · cases l with
    | nil => cases h
    | cons c r =>
      have h1 : SG.contains c = true := h
      rw [List.contains_iff_mem] at h1
      unfold SG at h1
      rw [List.mem_cons, List.mem_cons] at h1
      rcases h1 with rfl | rfl | h1
      · exact Or.inr (Or.inl rfl)
      · exact Or.inr (Or.inr rfl)
      · cases h1
structure PtsOk (l : List UInt8) (p : Pts) : Prop where
  hs : p.sg = [] ∨ p.sg = [43] ∨ p.sg = [45]
  ha : allDig p.ah = true
  hu : allDig p.un = true
  hb : allDig p.be = true
  hx : allDig p.ex = true
  la : p.ah.length ≤ l.length
  lu : p.un.length ≤ l.length
  lb : p.be.length ≤ l.length
  lx : p.ex.length ≤ l.length
theorem rtk_parts (l : List UInt8) : PtsOk l (rtk l).1 ∧ ((rtk l).2 = true → (rtk l).1.ah ≠ []) := by
  have n0 : allDig [] = true := rfl
  have l1 := oneR_len SG l
  have l2 := tw_len (oneR SG l)
  have l3 := dw_len (oneR SG l)
  have ne : ∀ {k : List UInt8} {b c : Bool}, (b && !(k.isEmpty || c)) = true → k ≠ [] := by
    intro k b c h e
    subst e
    simp at h
  cases h47 : inS [47] (dw (oneR SG l))
  · obtain ⟨be, l4, k2, hp, hb, hbl, hl4⟩ : ∃ be l4 k2, rpt (dw (oneR SG l)) = (be, l4, k2) ∧ allDig be = true ∧ be.length ≤ l.length ∧ l4.length ≤ l.length := by
      have a1 := oneR_len [46] (dw (oneR SG l))
      have a2 := tw_len (oneR [46] (dw (oneR SG l)))
      have a3 := dw_len (oneR [46] (dw (oneR SG l)))
      cases h46 : inS [46] (dw (oneR SG l))
      · exact ⟨_, _, _, rpt_n h46, n0, by simp, by omega⟩
      · exact ⟨_, _, _, rpt_y h46, tw_all _, by omega, by omega⟩
    obtain ⟨es, ex, l7, k3, hx, he, hel⟩ : ∃ es ex l7 k3, rex l4 = (es, ex, l7, k3) ∧ allDig ex = true ∧ ex.length ≤ l.length := by
      have a1 := oneR_len [101, 69] l4
      have a2 := oneR_len SG (oneR [101, 69] l4)
      have a3 := tw_len (oneR SG (oneR [101, 69] l4))
      cases h69 : inS [101, 69] l4
      · exact ⟨_, _, _, _, rex_n h69, n0, by simp⟩
      · exact ⟨_, _, _, _, rex_y h69, tw_all _, by omega⟩
    rw [rtk_n h47 hp hx]
    refine ⟨⟨oneT_sg l, tw_all _, n0, hb, he, by show (tw (oneR SG l)).length ≤ _; omega, by simp, hbl, hel⟩, fun h => ?_⟩
    have h : (l7.isEmpty && !(((tw (oneR SG l)).isEmpty || k2) || k3)) = true := h
    rw [Bool.or_assoc] at h
    exact ne h
  · rw [rtk_y h47]
    have a1 := oneR_len [47] (dw (oneR SG l))
    have a2 := tw_len (oneR [47] (dw (oneR SG l)))
    exact ⟨⟨oneT_sg l, tw_all _, tw_all _, n0, n0, by show (tw (oneR SG l)).length ≤ _; omega, by show (tw (oneR [47] (dw (oneR SG l)))).length ≤ _; omega, by simp, by simp⟩, fun h => ne h⟩
theorem PtsOk.num {l : List UInt8} {p : Pts} (h : PtsOk l p) (h0 : p.ah ≠ []) (hl : p.long = false) : NumOk p := by
  unfold Pts.long at hl
  rw [Bool.or_eq_false_iff] at hl
  exact ⟨h.hs, h.ha, h0, h.hu, h.hb, h.hx, by have := of_decide_eq_false hl.1; omega, by have := of_decide_eq_false hl.2; omega⟩

/-- What Parse leaves. -/
def PsRet (w : World) (l : List UInt8) (e : Ending) (w' : World) : Prop :=
  (rcode l ≠ 0 → e = .returned (.tuple #[rv false (.slice none 0 0) (.slice none 0 0), .int .i64 (rcode l : Int)])) ∧
  (rcode l = 0 → ∃ v, e = .returned (.tuple #[v, .int .i64 0]) ∧ Rc w' v (rtk l).1.val 600) ∧ Below w.heap.size w w'
theorem PsRet.err {w w' : World} {l : List UInt8} {c : Nat} (h : rcode l = c) (h0 : c ≠ 0) (hb : Below w.heap.size w w') : PsRet w l (.returned (.tuple #[rv false (.slice none 0 0) (.slice none 0 0), .int .i64 (c : Int)])) w' :=
  ⟨fun _ => by rw [h], fun h1 => absurd (h.symm.trans h1) h0, hb⟩
theorem PsRet.ok {w w' : World} {l : List UInt8} {v : Value} (h : rcode l = 0) (hc : Rc w' v (rtk l).1.val 600) (hb : Below w.heap.size w w') : PsRet w l (.returned (.tuple #[v, .int .i64 0])) w' :=
  ⟨fun h1 => absurd h h1, fun _ => ⟨v, rfl, hc⟩, hb⟩

set_option maxHeartbeats 4000000 in
theorem rparse_any (T : ByteArray) (w : World) (hT : T.size ≤ 1000000000000000000) (he : Ev w) : Calls Tryz.prog 13 #[.string T] w (PsRet w T.data.toList) := by
  obtain ⟨l, hl⟩ : ∃ l, T.data.toList = l := ⟨_, rfl⟩
  have hlen : l.length ≤ 1000000000000000000 := by rw [← hl, ← bsize]; exact hT
  have TA := hide (fun W => apart_any T W (by omega))
  rw [hl] at TA ⊢
  have b0 : Below w.heap.size w (w.alloc rblk) := (Below.refl _ _).alloc (Nat.le_refl _) _
  have B := hide b0
  have Z := hide (Rb.new w)
  have E := hide (he.step b0)
  obtain ⟨ok, hne⟩ := rtk_parts l
  obtain ⟨p, k, hr⟩ : ∃ p k, rtk l = (p, k) := ⟨_, _, rfl⟩
  have HR := hide hr
  have RC := hide (show (k = false → rcode l = 5) ∧ (k = true → p.long = true → rcode l = 1) ∧ (k = true → p.long = false → p.un ≠ [] → dval p.un = 0 → rcode l = 3) ∧ (k = true → p.long = false → (p.un = [] ∨ dval p.un ≠ 0) → rcode l = 0) by
    unfold rcode
    rw [hr]
    refine ⟨fun h => by rw [h]; rfl, fun h h1 => by rw [h, h1]; rfl, fun h h1 h2 h3 => ?_, fun h h1 h2 => ?_⟩
    · simp only [h, h1]; rw [if_neg (by simp), if_neg (by simp), if_pos ⟨h2, h3⟩]
    · simp only [h, h1]; rw [if_neg (by simp), if_neg (by simp), if_neg (fun hh => by rcases h2 with h2 | h2; exact hh.1 h2; exact h2 hh.2)])
  rw [hr] at ok hne
  have OK := hide ok
  have NE := hide hne
  have HL := hide hlen
  clear hl hT he b0 ok hne hlen
  unfold TaRet at TA
  rw [hr] at TA
  clear hr
  go_enter Tryz.func13, Tryz.ntmps13
  go_wp2_with fail
  refine (TA.out _).mono ?_
  rintro e w1 ⟨v1, rfl, hv, b1⟩
  have hv0 := hv
  obtain ⟨a, b, c, d, f, x, rfl, -⟩ := hv
  have PVH := hide hv0
  have b2 : Below w1.heap.size w1 (w1.alloc (pblk a b c d f x)) := (Below.refl _ _).alloc (Nat.le_refl _) _
  have bb := Below.step1 b1 b2
  have P := hide (pbox w1 a b c d f x)
  have Z := hide (Z.out.step bb)
  have B := hide (Below.step B.out B.out.size bb)
  have E := hide (E.out.step bb)
  clear b1 b2 bb hv0 TA
  cases k
  · obtain ⟨k0, k1, k2, f0, f1, f2, fin⟩ := zret_fit (w0 := w) Z.out (by omega) B.out
    have F := hide fin
    have R := hide (show PsRet w l (.returned (.tuple #[rv false (.slice none 0 0) (.slice none 0 0), .int .i64 5])) _ from PsRet.err (c := 5) (RC.out.1 rfl) (by omega) F.out.2)
    clear fin Z B E P PVH RC OK NE HL HR
    go_wp2_with fail
    exact bodyPost_ret (rret2 (p := 2) (q := 3) rfl _ _ _ #[.bool false, .slice none 0 0, .slice none 0 0] rfl rfl F.out.1) rfl R.out
  · replace NE := hide (NE.out rfl)
    replace RC := hide (And.intro (RC.out.2.1 rfl) (And.intro (RC.out.2.2.1 rfl) (RC.out.2.2.2 rfl)))
    have LG := hide (fun W hE => long_any (w := W) PVH.out OK.out.hx (Nat.le_trans OK.out.la HL.out) (Nat.le_trans OK.out.lu HL.out) (Nat.le_trans OK.out.lb HL.out) (Nat.le_trans OK.out.lx HL.out) hE)
    obtain ⟨p0, p1, p2, p3, p4, p5⟩ := P.out.cells6
    obtain ⟨q, hq⟩ : ∃ q, p.long = q := ⟨_, rfl⟩
    rw [hq] at LG
    have HQ := hide hq
    clear hq
    go_wp2_with fail
    refine (LG.out _ E.out).mono ?_
    rintro e w2 ⟨rfl, bb⟩
    have P := hide (P.out.step bb)
    have Z := hide (Z.out.step bb)
    have B := hide (Below.step B.out B.out.size bb)
    have E := hide (E.out.step bb)
    clear bb LG p0 p1 p2 p3 p4 p5
    cases q
    · obtain ⟨p0, p1, p2, p3, p4, p5⟩ := P.out.cells6
      have NO := hide (OK.out.num NE.out HQ.out)
      by_cases hz : p.un ≠ [] ∧ dval p.un = 0
      · have NM := hide (fun W => number_zero (w := W) PVH.out NO.out hz.1 hz.2)
        have C := hide (RC.out.2.1 HQ.out hz.1 hz.2)
        clear hz
        go_wp2_with fail
        refine (NM.out _).mono ?_
        rintro e w3 ⟨rfl, bb⟩
        obtain ⟨k0, k1, k2, f0, f1, f2, fin⟩ := zret_fit (w0 := w) (Z.out.step bb) (by omega) (Below.step B.out B.out.size bb)
        have F := hide fin
        have R := hide (show PsRet w l (.returned (.tuple #[rv false (.slice none 0 0) (.slice none 0 0), .int .i64 3])) _ from PsRet.err (c := 3) C.out (by omega) F.out.2)
        clear fin bb Z B E P PVH RC OK NE HL HR NM C NO HQ p0 p1 p2 p3 p4 p5
        go_wp2_with fail
        exact bodyPost_ret (rret2 (p := 2) (q := 3) rfl _ _ _ #[.bool false, .slice none 0 0, .slice none 0 0] rfl rfl F.out.1) rfl R.out
      · have hz2 : p.un = [] ∨ dval p.un ≠ 0 := by by_cases h1 : p.un = []; exact Or.inl h1; exact Or.inr (fun h2 => hz ⟨h1, h2⟩)
        have NM := hide (fun W (hE : Ev W) => show Calls Tryz.prog 31 #[pv a b c d f x] W (RqRet W p.val 600) from by
          by_cases h1 : p.un = []
          · exact number_shift PVH.out NO.out h1 hE
          · exact (number_over PVH.out NO.out h1 (hz2.resolve_left h1)).mono fun e w' ⟨v, g1, g2, g3⟩ => ⟨v, g1, g2.more (by omega), g3⟩)
        have C := hide (RC.out.2.2 HQ.out hz2)
        have HV := hide (show p.val = (rtk l).1.val by rw [HR.out])
        clear hz hz2
        go_wp2_with fail
        refine (NM.out _ E.out).mono ?_
        rintro e w3 ⟨r, rfl, c3, bb⟩
        rw [HV.out] at c3
        obtain ⟨sg, A1, n1, c1', D1, m1, d1, rfl, k0, k1, k2, f0, f1, f2, fin⟩ := rret_fit (w0 := w) c3 (Z.out.step bb) (by omega) (Below.step B.out B.out.size bb)
        have F := hide fin
        have R := hide (show PsRet w l (.returned (.tuple #[rv sg (.slice A1 n1 c1') (.slice D1 m1 d1), .int .i64 0])) _ by
          obtain ⟨-, v, e, h1, h2⟩ := F.out
          injection e with e
          subst e
          exact PsRet.ok C.out h1 h2)
        clear fin c3 bb Z B E P PVH RC OK NE HL HR NM C NO HQ HV p0 p1 p2 p3 p4 p5
        go_wp2_with fail
        exact bodyPost_ret (rret2 (p := 2) (q := 3) rfl _ _ _ #[.bool sg, .slice A1 n1 c1', .slice D1 m1 d1] rfl rfl F.out.1) rfl R.out
    · obtain ⟨k0, k1, k2, f0, f1, f2, fin⟩ := zret_fit (w0 := w) Z.out (by omega) B.out
      have F := hide fin
      have R := hide (show PsRet w l (.returned (.tuple #[rv false (.slice none 0 0) (.slice none 0 0), .int .i64 1])) _ from PsRet.err (c := 1) (RC.out.1 HQ.out) (by omega) F.out.2)
      clear fin Z B E P PVH RC OK NE HL HR HQ
      go_wp2_with fail
      exact bodyPost_ret (rret2 (p := 2) (q := 3) rfl _ _ _ #[.bool false, .slice none 0 0, .slice none 0 0] rfl rfl F.out.1) rfl R.out
end Go.Proofs.YtajjpepjbflojaaGreatDoor
