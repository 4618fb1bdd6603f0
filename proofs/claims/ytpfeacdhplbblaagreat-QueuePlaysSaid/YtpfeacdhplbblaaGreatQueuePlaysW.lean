
/-
  The walk of QueuePlays: true.
-/
import Derived.Test.YtpfeacdhplbblaaGreatBundleAA
import Derived.Test.YtpfeacdhplbblaaGreatQu8
import Derived.Test.YtpfeacdhplbblaaGreatBundleO
import Derived.Deep.DeepCutAuto
import Derived.BigRegion
import Derived.Deep.RegionHeld3


namespace Go.Proofs.YtpfeacdhplbblaaGreat
open Go.RowKit Go.Proofs.YtpfeacdhplbblaaGreat.Num
set_option linter.unusedVariables false
set_option linter.unusedSimpArgs false
set_option maxRecDepth 100000
theorem len_less {α : Type} {l l' : List α} {a b : Nat} (h : l' ≠ [] → l'.length + 1 = l.length) (hl : l.length ≤ b) (hb : b ≤ a + 1) : l'.length ≤ a := by
  cases l' with
  | nil => exact Nat.zero_le _
  | cons x r => have := h (by simp); omega
set_option maxHeartbeats 16000000 in
theorem quplays_go (w : World) (z : Int) (v : Value) (d : List Ox) (hz : (Lit.int .i64 z).wf = true) (hv : Nlo w v d) :
    Calls Tryz.prog 3 #[.int .i64 z, v] w fun e w' => e = .returned (.bool true) ∧ Below w.heap.size w w' := by
  obtain ⟨LA, ln, lc, rfl⟩ := rv_sl hv.1.1
  have LN := hide ((lr_nQ hv.1.1).1)
  have L9 := hide (show ln ≤ 1759218604390 by have := (lr_nQ hv.1.1).1; have := hv.1.2.1; omega)
  have V := hide hv
  have B := hide (Below.refl w.heap.size w)
  clear hv
  go_enter Tryz.func3, Tryz.ntmps3
  go_wp2_with fail
  refine (quspeaks_true w).mono ?_
  rintro e w1 ⟨rfl, bx⟩
  replace V := hide (V.out.step bx)
  replace B := hide (Below.step B.out B.out.size bx)
  clear bx
  by_cases hz2 : z = 0 ∨ z = 1
  case neg =>
    have hz0 : z ≠ 0 := fun h => hz2 (.inl h)
    have hz1 : z ≠ 1 := fun h => hz2 (.inr h)
    have t2 : (z != 0) = true := by simp [hz0]
    have t3 : (z != 1) = true := by simp [hz1]
    clear hz2
    go_wp2_with fail
    refine (qnewx_c w1 z hz0 hz1).mono ?_
    rintro e w3 ⟨rfl, bx⟩
    replace B := hide (Below.step B.out B.out.size bx)
    clear bx
    go_wp2_with fail
    go_ret
    exact ⟨rfl, B.out⟩
  case pos =>
    have KP := hide (show ∀ W, Below w1.heap.size w1 W → Nlo W (.slice LA ln lc) d ∧ Below w.heap.size w W from fun W h => ⟨V.out.step h, Below.step B.out B.out.size h⟩)
    clear V B
    go_wp2_with fail
    refine (qnew_c w1 z hz2).mono ?_
    rintro e w2 ⟨g, rfl, q1, b1⟩
    have ZC := hide hz2
    have QO := hide q1
    have BL := hide b1
    clear q1 b1
    clear hz2
    go_upto_region 4 with fail
    go_cut [39] (fun c wx => c = .bool false ∧ wx = w2)
    case first =>
      rcases ZC.out with hz0 | hz0
      · subst hz0
        go_wp2_with fail
        go_meet
        exact ⟨rfl, rfl⟩
      · subst hz0
        go_wp2_with fail
        go_meet
        exact ⟨rfl, rfl⟩
    case rest =>
      obtain ⟨rfl, rfl⟩ := hcut
      go_wp2_with fail
      have bn := bal1 wc (.cells #[.int .i64 z, .slice none 0 0] 31)
      have R0 : Ro (wc.alloc (.cells #[.int .i64 z, .slice none 0 0] 31)) w1.heap.size wc.heap.size z (none, 0, 0) [] := ⟨heap_alloc_new wc _, BL.out.size, ⟨rfl, by simp [maxLen], Nat.le_refl _, .inl ⟨rfl, rfl⟩⟩, fun x hx => by cases hx⟩
      have SQ0 := hide (show Sq (wc.alloc (.cells #[.int .i64 z, .slice none 0 0] 31)) w1.heap.size g wc.heap.size z 0 from ⟨[], [], (none, 0, 0), (none, 0, 0), ⟨QO.out.step bn, R0, fun b e => by cases e⟩, Hn.zero _ _, Alk.nil _, Nat.le_refl _⟩)
      have BL0 := hide (Below.step BL.out BL.out.size bn)
      clear bn R0 QO BL
      generalize (wc.alloc (.cells #[.int .i64 z, .slice none 0 0] 31)) = w3 at *
      generalize wc.heap.size = m at *
      go_loopw [59] (fun iv wr => ∃ k : Nat, k ≤ ln ∧ iv = .int .i64 (k : Int) ∧ Hid (Below w1.heap.size w1 wr) ∧ Hid (Sq wr w1.heap.size g m z k)) (fun iv _ => ln - (intOf iv).toNat)
      case atStart => exact ⟨0, Nat.zero_le _, rfl, BL0, SQ0⟩
      case round =>
        clear BL0 SQ0
        obtain ⟨k, hk, rfl, BL, SQ⟩ := hrel
        by_cases hlt : k < ln
        · have l1 : (0 : Int) ≤ (k : Int) := by omega
          have l2 : (k : Int) < (ln : Int) := by omega
          obtain ⟨x, hx⟩ := len_of (d := d) (k := k) (by have := LN.out; omega)
          have HX := hide (List.mem_of_getElem? hx)
          have K := KP.out _ BL.out
          obtain ⟨b1, off1, e1, hb1, hc1⟩ := K.1.1.1.get hx
          subst e1
          have x0 := hc1 0 _ rfl
          have x1 := hc1 1 _ rfl
          have x2 := hc1 2 _ rfl
          have x3 := hc1 3 _ rfl
          have x4 := hc1 4 _ rfl
          have x5 := hc1 5 _ rfl
          rw [Nat.add_zero] at x0
          have bn := bal1 wr (obox x)
          have OX := hide (Oq.new wr x)
          have SX := hide (SQ.out.step bn)
          have BX := hide (Below.step BL.out BL.out.size bn)
          have GX := hide (show w1.heap.size ≤ wr.heap.size from BL.out.size)
          clear bn K hb1 hc1 hx SQ BL
          obtain ⟨y0, y1, y2, y3, y4, y5⟩ := OX.out.all
          go_wp2_with fail
          generalize (wr.alloc (obox x)) = w4 at *
          generalize wr.heap.size = gx at *
          refine (words_x ((KP.out _ BX.out).1.1.2.2 x HX.out) (by omega)).mono ?_
          rintro e w5 ⟨rfl, bx⟩
          replace OX := hide (OX.out.step bx)
          replace SX := hide (SX.out.step bx)
          replace BX := hide (Below.step BX.out BX.out.size bx)
          clear bx y0 y1 y2 y3 y4 y5 x0 x1 x2 x3 x4 x5
          obtain ⟨mx, hm⟩ : ∃ m, m = x.n.x.u.2.1 + x.n.x.t.2.1 := ⟨_, rfl⟩
          rw [← hm]
          have HM := hide hm
          clear hm
          by_cases h6 : 6 < mx
          · have t2 : decide ((6 : Int) < (mx : Int)) = true := decide_eq_true (by omega)
            have B1 := hide (KP.out _ BX.out).2
            go_wp2_with fail
            go_ret
            exact ⟨rfl, B1.out⟩
          · have t2 : decide ((6 : Int) < (mx : Int)) = false := decide_eq_false (by omega)
            have KX := hide (show ∀ W, Below w1.heap.size w1 W → Ra W (rx x.n.x) x.n.x.r 6 from fun W h => (((KP.out _ h).1.1.2.2 x HX.out).tight (M := 6) (by have := HM.out; omega) (by have := HM.out; omega)))
            clear h6 HM
            obtain ⟨y0, y1, y2, y3, y4, y5⟩ := OX.out.all
            obtain ⟨b, hb7, eb⟩ := and7 x.kd
            have CN := hide (show Sq w5 w1.heap.size g m z (k + 1) from by
              obtain ⟨l, r, v, u, sm, hn, al, hl⟩ := SX.out
              exact ⟨l, r, v, u, sm, hn, al, by omega⟩)
            have KL := hide (show k + 1 ≤ 1759218604390 by have := L9.out; omega)
            go_upto_block 2 with fail
            go_cut [] (fun wx => Below w1.heap.size w1 wx ∧ Sq wx w1.heap.size g m z (k + 1))
            case first =>
              go_upto_if 71 with fail
              go_cut [71] (fun c wx => c = .bool (decide (b ≤ 3)) ∧ wx = w5)
              case first =>
                rcases (by omega : b = 0 ∨ b = 1 ∨ b = 2 ∨ b = 3 ∨ 3 < b) with rfl | rfl | rfl | rfl | h3
                · go_wp2_with fail
                  go_meet
                  exact ⟨rfl, rfl⟩
                · go_wp2_with fail
                  go_meet
                  exact ⟨rfl, rfl⟩
                · go_wp2_with fail
                  go_meet
                  exact ⟨rfl, rfl⟩
                · go_wp2_with fail
                  go_meet
                  exact ⟨rfl, rfl⟩
                · have e0 : ((b : Int) == 0) = false := by simp; omega
                  have e1 : ((b : Int) == 1) = false := by simp; omega
                  have e2 : ((b : Int) == 2) = false := by simp; omega
                  have e3 : ((b : Int) == 3) = false := by simp; omega
                  have e4 : (b == 0) = false := by simp; omega
                  have e5 : decide (b ≤ 3) = false := decide_eq_false (by omega)
                  go_wp2_with fail
                  go_meet
                  exact ⟨by rw [e5], rfl⟩
              case rest =>
                obtain ⟨hc71, hc5⟩ := hcut
                subst hc71 hc5
                by_cases hb3 : b ≤ 3
                · have e5 : decide (b ≤ 3) = true := decide_eq_true hb3
                  as_aux_lemma =>
                    obtain ⟨l, r, v, u, sm, hn, al, hl⟩ := SX.out
                    have SM := hide sm
                    have HN := hide hn
                    have AL := hide al
                    have HL := hide hl
                    have UN := hide sm.und
                    clear sm hn al hl SX CN
                    have NB := hide (Nq.new wc x.n)
                    have bn := bal1 wc (nbox x.n)
                    have B6 := hide (Below.step BX.out BX.out.size bn)
                    have SB := hide bn
                    clear bn hb3
                    obtain ⟨p0, p1, p2, p3, p4⟩ := NB.out.all
                    rw [e5]
                    go_wp2_with fail
                    generalize hw6 : (wc.alloc (nbox x.n)) = w6 at *
                    have G6 := hide (show wc.heap.size < w6.heap.size by rw [← hw6]; simp)
                    clear hw6
                    refine (rcp_c (KX.out _ B6.out)).mono ?_
                    rintro e w7 ⟨y, rfl, ey, ry, wu, wt, bx⟩
                    have N7 := NB.out.step bx
                    have LY := hide (Lie.of wu wt)
                    have b7 := Below.step SB.out SB.out.size bx
                    have k8 := Ch.put3 (W := w7) (g := wc.heap.size) y
                    have LN8 := LY.out.nsx (S := fun b => b = wc.heap.size) (fun b hb => .inl (by have := G6.out; omega))
                    have EY := hide ey
                    have R8 := hide (ry.ch k8 LN8)
                    have U8 := hide (wu.ch k8 LN8.1)
                    have T8 := hide (wt.ch k8 LN8.2)
                    have N8 := hide (nq_put N7 y)
                    have B8 := hide (((b7.setCell (p := ⟨wc.heap.size, 2, none⟩) (Nat.le_refl _) (.bool y.s)).setCell (p := ⟨wc.heap.size, 3, none⟩) (Nat.le_refl _) (sv y.u)).setCell (p := ⟨wc.heap.size, 4, none⟩) (Nat.le_refl _) (sv y.t))
                    have S8 := hide (show w7.heap.size ≤ (((w7.setCell ⟨wc.heap.size, 2, none⟩ (.bool y.s)).setCell ⟨wc.heap.size, 3, none⟩ (sv y.u)).setCell ⟨wc.heap.size, 4, none⟩ (sv y.t)).heap.size from k8.1)
                    have S67 := hide (show w6.heap.size ≤ w7.heap.size from bx.size)
                    obtain ⟨-, -, c2, c3, c4⟩ := N7.all
                    have f2 := N7.fz 2
                    have f3 := N7.fz 3
                    have f4 := N7.fz 4
                    obtain ⟨d0, d1, d2, d3, d4⟩ := N8.out.all
                    clear bx ey ry wu wt N7 b7 k8 LN8 p0 p1 p2 p3 p4 NB SB y0 y1 y2 y3 y4 y5
                    go_wp2_with fail
                    clear c2 c3 c4 f2 f3 f4
                    generalize (((w7.setCell ⟨wc.heap.size, 2, none⟩ (.bool y.s)).setCell ⟨wc.heap.size, 3, none⟩ (sv y.u)).setCell ⟨wc.heap.size, 4, none⟩ (sv y.t)) = w8 at *
                    have SM8 := hide (SM.out.step B8.out)
                    refine (qpush_c (n := ⟨x.n.id, x.n.dp, y⟩) SM8.out.1 R8.out (by have := HL.out; have := KL.out; omega) (by omega) (by omega)).mono ?_
                    rintro e w9 ⟨rfl, v9, l9, z1, ey1, gy1, q9, p9, h9, ef⟩
                    have ke := Ch.efq ef
                    have OV := hide (show ∀ b, (b = g ∨ (sv v).ownBlock = some b) → b < wc.heap.size from fun b hb => by
                      have h1 := UN.out.1
                      have h2 := UN.out.2.2.1
                      rcases hb with hb | hb
                      · omega
                      · exact h2 b hb)
                    have LN9 := LY.out.nsx (S := fun b => b = g ∨ (sv v).ownBlock = some b) (fun b hb => .inl (by have := OV.out b hb; have := G6.out; omega))
                    have N9 := N8.out.ch ke (fun hb => by have := OV.out _ hb; omega)
                    have R9 := hide (R8.out.ch ke LN9)
                    have U9 := hide (U8.out.ch ke LN9.1)
                    have T9 := hide (T8.out.ch ke LN9.2)
                    have O9 := hide ((OX.out.step B8.out).ch ke (fun hb => by
                      have ap := Oq.apart SM8.out (OX.out.step B8.out)
                      rcases hb with hb | hb
                      · exact ap.1 hb
                      · exact ap.2.2.1 hb))
                    have B9 := hide (show Below w1.heap.size w1 w9 from (Below.step BX.out BX.out.size B8.out).trans ef.1)
                    have EY1 := hide ey1
                    have GY1 := hide gy1
                    have Q9 := hide q9
                    have P9 := hide p9
                    have H9 := hide h9
                    have EF := hide ef
                    have S89 := hide ef.1.size
                    have LG := hide OX.out.lt
                    have SW := hide (show w1.heap.size ≤ w6.heap.size from B6.out.size)
                    obtain ⟨-, -, a2, a3, a4⟩ := N9.all
                    clear ke LN9 N9 ey1 gy1 q9 p9 h9 ef d0 d1 d2 d3 d4 N8 R8 U8 T8 OX BX B8 SM B6
                    go_wp2_with fail
                    refine (rsp_c (B := w6.heap.size) R9.out U9.out T9.out (by have := S67.out; have := S8.out; have := S89.out; omega) w8.heap.size (fun h a e => by have := LY.out.1 h a e; have := S8.out; omega) (fun h a e => by have := LY.out.2 h a e; have := S8.out; omega)).mono ?_
                    rintro e w10 ⟨rfl, sp⟩
                    have SM10 := hide (Sm.mid SM8.out GY1.out Q9.out P9.out EF.out sp UN.out (by have := G6.out; omega) (Nat.le_refl _))
                    have O10 := O9.out.ch (Ch.spu sp) (fun hb => by have := LG.out; have := G6.out; omega)
                    have B10 := hide (B9.out.trans (sp.1.1.mono SW.out))
                    obtain ⟨-, o1, o2, o3, o4, o5⟩ := O10.all
                    clear a2 a3 a4 sp O10 R9 U9 T9 O9 B9 SM8 GY1 Q9 EF
                    go_wp2_with fail
                    refine (rpush_c (n := x.n) SM10.out.2.1 (KX.out _ B10.out) (by have := HL.out; have := KL.out; have := AL.out.len; omega)).mono ?_
                    rintro e w11 ⟨rfl, u11, L11, z2, k2, ey2, gy2, q11, ins, hk2, ef2⟩
                    have FIN := hide (And.intro (B10.out.trans ef2.1) (Sq.push SM10.out HN.out AL.out HL.out EY.out EY1.out P9.out H9.out ey2 q11 ins hk2 ef2))
                    clear ey2 gy2 q11 ins hk2 ef2 SM10 o1 o2 o3 o4 o5
                    go_wp2_with fail
                    go_meet
                    exact FIN.out
                · have e5 : decide (b ≤ 3) = false := decide_eq_false hb3
                  rw [e5]
                  go_upto_if 92 with fail
                  go_cut [92] (fun c wx => c = .bool (decide (b ≤ 5)) ∧ wx = wc)
                  case first =>
                    rcases (by omega : b = 4 ∨ b = 5 ∨ 5 < b) with rfl | rfl | h3
                    · go_wp2_with fail
                      go_meet
                      exact ⟨rfl, rfl⟩
                    · go_wp2_with fail
                      go_meet
                      exact ⟨rfl, rfl⟩
                    · have e0 : ((b : Int) == 4) = false := by simp; omega
                      have e1 : ((b : Int) == 5) = false := by simp; omega
                      have e6 : decide (b ≤ 5) = false := decide_eq_false (by omega)
                      go_wp2_with fail
                      go_meet
                      exact ⟨by rw [e6], rfl⟩
                  case rest =>
                    obtain ⟨hc92, hc6⟩ := hcut
                    subst hc92 hc6
                    by_cases hb5 : b ≤ 5
                    · have e6 : decide (b ≤ 5) = true := decide_eq_true hb5
                      as_aux_lemma =>
                        obtain ⟨l, r, v, u, sm, hn, al, hl⟩ := SX.out
                        have SM := hide sm
                        have HN := hide hn
                        have AL := hide al
                        have HL := hide hl
                        clear sm hn al hl SX
                        clear CN hb5
                        rw [e6]
                        go_wp2_with fail
                        refine (qpopb_c SM.out.1 HN.out (by have := HL.out; have := KL.out; omega)).mono ?_
                        rintro e w6 ⟨x1, t, v6, l6, rfl, q6, h6, ef, hx⟩
                        have sm6 := SM.out.q q6 ef
                        have bn := bal1 w6 (nbox x1)
                        have SM7 := hide (sm6.step bn)
                        have UN := hide sm6.und
                        have H6 := hide h6
                        have HX6 := hide hx
                        have N1 := hide (Nq.new w6 x1)
                        have BN := hide bn
                        have B6 := BX.out.trans ef.1
                        have B7 := hide (Below.step B6 B6.size bn)
                        clear q6 h6 ef hx sm6 bn B6 SM BX
                        go_wp2_with fail
                        generalize (w6.alloc (nbox x1)) = w7 at *
                        refine (rpopb_c SM7.out.2.1).mono ?_
                        rintro e w8 ⟨z1, s, u8, r8, rfl, q8, ef8, hy⟩
                        obtain ⟨hts, al', hle, hf, hk9, hne⟩ := AL.out.pops HX6.out hy
                        subst hts
                        have N8 := N1.out.ch (Ch.efq ef8) (fun hb => by
                          have h1 := UN.out.2.1
                          have h2 := UN.out.2.2.2.1
                          rcases hb with hb | hb
                          · omega
                          · have := h2 _ hb; omega)
                        have bn := bal1 w8 (nbox z1)
                        have NX := hide (N8.step bn)
                        have NY := hide (Nq.new w8 z1)
                        have NS := hide (Nsm.of (W := w8.alloc (nbox z1)) hk9 (fun p => ((p.step BN.out).efr ef8 SM7.out.2.1).step bn) (fun q => q.step bn))
                        have B8 := B7.out.trans ef8.1
                        have B9 := hide (Below.step B8 B8.size bn)
                        have HNE := hide hne
                        have HLE := hide hle
                        have S9 := hide (show Sq (w8.alloc (nbox z1)) w1.heap.size g m z (k + 1) from ⟨l6, r8, v6, u8, (SM7.out.r q8 ef8).step bn, H6.out, al', by have := HLE.out; have := HL.out; omega⟩)
                        have tt : (t != t) = false := by cases t <;> rfl
                        obtain ⟨a0, a1, a2, a3, a4⟩ := NX.out.all
                        obtain ⟨c0, c1, c2, c3, c4⟩ := NY.out.all
                        clear q8 ef8 hy al' hle hf hk9 hne N8 bn B8 SM7 B7 HX6 N1 AL HN NX NY
                        go_wp2_with fail
                        generalize (w8.alloc (nbox z1)) = w9 at *
                        refine (rnsameb_c NS.out).mono ?_
                        rintro e wA ⟨rfl, bx⟩
                        have FIN := hide (And.intro (Below.step B9.out B9.out.size bx) (S9.out.step bx))
                        clear bx a0 a1 a2 a3 a4 c0 c1 c2 c3 c4 NS B9 S9
                        go_wp2_with fail
                        go_meet
                        exact FIN.out
                    · have e6 : decide (b ≤ 5) = false := decide_eq_false hb5
                      rw [e6]
                      by_cases hb6 : b = 6
                      · subst hb6
                        as_aux_lemma =>
                          obtain ⟨l, r, v, u, sm, hn, al, hl⟩ := SX.out
                          have D := hide (Below.refl wc.heap.size wc).drew
                          have SM := hide (sm.step D.out)
                          have HN := hide hn
                          have AL := hide al
                          have HL := hide hl
                          have UN := hide (SM.out.und)
                          have OD := hide (OX.out.step D.out)
                          have OC := hide (OD.out.all.2.2.2)
                          have BD := hide (Below.step BX.out BX.out.size D.out)
                          clear sm hn al hl SX CN D BX
                          go_wp2_with fail
                          clear y0 y1 y2 y3 y4 y5
                          obtain ⟨n5, hn5⟩ : ∃ n5, n5 = wc.drew.heap.size := ⟨_, rfl⟩
                          have N5 := hide hn5
                          rw [← hn5] at UN
                          clear hn5
                          go_region_held3 (fun W => W.cell? ⟨gx, 3, none⟩ = some (.bool x.n.x.s) ∧ W.cell? ⟨gx, 4, none⟩ = some (sv x.n.x.u) ∧ W.cell? ⟨gx, 5, none⟩ = some (sv x.n.x.t))
                            (with_reducible exact OC.out)
                            (first
                              | (go_at_call 7; refine Calls.mono (rcp_c (KX.out _ BD.out)) ?_; rintro e wx ⟨y, rfl, ey, ry, wu, wt, bx⟩; have EY := hide ey; have RY := hide ry; have LY := hide (show Lie n5 wx.heap.size y by rw [N5.out]; exact Lie.of wu wt); replace SM := hide (SM.out.step bx); replace OD := hide (OD.out.step bx); replace OC := hide (OD.out.all.2.2.2); replace BD := hide (Below.step BD.out BD.out.size bx); clear bx ey ry wu wt)
                              | (go_at_call 15; refine Calls.mono (qprune_e (q := y) SM.out.1 (fun W v' h => RY.out.ch (Ch.efq h) (LY.out.nsx (fun b hb => .inl (by rcases hb with hb | hb; (have := UN.out.1; omega); (have := UN.out.2.2.1 b hb; omega))))) (by have := HL.out; have := KL.out; omega) (by omega) (by omega)) ?_; rintro e wy ⟨out1, v1, l1', rfl, o1, q1, p1, h1, ef⟩; have O1 := hide o1; have P1 := hide p1; have H1 := hide h1; replace OD := hide (OD.out.ch (Ch.efq ef) (fun hb => by have ap := Oq.apart SM.out OD.out; rcases hb with hb | hb; exact ap.1 hb; exact ap.2.2.1 hb)); replace OC := hide (OD.out.all.2.2.2); have MU := hide (show m < wx.heap.size ∧ ∀ b, (sv u).ownBlock = some b → b < wx.heap.size from ⟨SM.out.und.2.1, SM.out.und.2.2.2.1⟩); replace SM := hide (SM.out.q q1 ef); replace BD := hide (BD.out.trans ef.1); clear o1 q1 p1 h1 ef)
                              | (go_at_call 16; refine Calls.mono (rprune_c (q := x.n.x) SM.out.2.1 (KX.out _ BD.out) (by have := HL.out; have := KL.out; have := AL.out.len; omega)) ?_; rintro e wz ⟨out2, u2, d2, rfl, o2, od, dp, q2, ef⟩; have O2 := hide o2; replace O1 := hide (O1.out.efq ef MU.out.1 MU.out.2); have SE := hide (show d2 = srt (gone y.r l) by rw [EY.out]; exact alk_srt AL.out od dp); replace OD := hide (OD.out.ch (Ch.efq ef) (fun hb => by have ap := Oq.apart SM.out OD.out; rcases hb with hb | hb; exact ap.2.1 hb; exact ap.2.2.2 hb)); replace OC := hide (OD.out.all.2.2.2); replace SM := hide (SM.out.r q2 ef); replace BD := hide (BD.out.trans ef.1); clear o2 od dp q2 ef)
                              | (go_at_call 14; refine Calls.mono (rsameints_c (d := srt (gone y.r l)) (O1.out.rl eiq_len) (by have h := O2.out.rl eiq_len; rw [SE.out] at h; exact h)) ?_; rintro e wq ⟨rfl, bx⟩; replace SM := hide (SM.out.step bx); replace OD := hide (OD.out.step bx); replace OC := hide (OD.out.all.2.2.2); replace BD := hide (Below.step BD.out BD.out.size bx); clear bx))
                          all_goals
                            have FIN := hide (And.intro BD.out (show Sq _ w1.heap.size g m z (k + 1) from ⟨l1', keep x.n.x.r r, v1, u2, SM.out, H1.out, AL.out.prune (by rw [← EY.out]; exact P1.out), by have h := P1.out.length_eq; have := keep_len y.r l; have := HL.out; omega⟩))
                            go_wp2_with fail
                            go_meet
                            exact FIN.out
                      · have e7 : ((b : Int) == 6) = false := by simp; omega
                        go_wp2_with fail
                        go_meet
                        exact ⟨BX.out, CN.out⟩
            case rest =>
              obtain ⟨B5, SX5⟩ := hcut
              have NWC := hide B5.size
              as_aux_lemma =>
                have BX := hide B5
                have SX := hide SX5
                have hk9 : k ≤ 1759218604390 := by have := KL.out; omega
                clear B5 SX5
                obtain ⟨l, r, v, u, sm, hn, al, hl⟩ := SX.out
                have SM := hide sm
                have HN := hide hn
                have AL := hide al
                have HL := hide hl
                have UN := hide sm.und
                clear sm hn al hl SX
                go_wp2_with fail
                refine (qleastb_c SM.out.1 HN.out).mono ?_
                rintro e w6 ⟨a, t, rfl, bx, wu, wt, ra, hx⟩
                have bn := bal1 w6 (rbox a.s (sv a.u) (sv a.t))
                have b67 := Below.step bx bx.size bn
                have SM7 := hide (SM.out.step b67)
                have LY := hide (Lie.of wu wt)
                have RA := hide (ra.step bn)
                have WU := hide (wu.step bn)
                have WT := hide (wt.step bn)
                have HX6 := hide hx
                have XA := hide (Bq.new w6 a.s (sv a.u) (sv a.t))
                have BN := hide bn
                have S6 := hide bx.size
                have B7 := hide (Below.step BX.out BX.out.size b67)
                clear bx wu wt ra hx bn b67 SM BX
                go_wp2_with fail
                generalize (w6.alloc (rbox a.s (sv a.u) (sv a.t))) = w7 at *
                refine (rleastb_c SM7.out.2.1).mono ?_
                rintro e w8 ⟨c, s, rfl, bx, hy⟩
                have bn := bal1 w8 (rbox c.s (sv c.u) (sv c.t))
                have b79 := Below.step bx bx.size bn
                obtain ⟨hts, lsm⟩ := AL.out.leasts (Below.step BN.out BN.out.size bx) HX6.out hy
                subst hts
                have NS := hide (lsm.step bn)
                have SM9 := hide (SM7.out.step b79)
                replace RA := hide (RA.out.step b79)
                replace WU := hide (WU.out.step b79)
                replace WT := hide (WT.out.step b79)
                replace XA := hide (XA.out.step b79)
                have XC := hide (Bq.new w8 c.s (sv c.u) (sv c.t))
                have S69 := hide (show w6.heap.size ≤ (w8.alloc (rbox c.s (sv c.u) (sv c.t))).heap.size from Nat.le_trans BN.out.size b79.size)
                have B9 := hide (Below.step B7.out B7.out.size b79)
                have tt : (t != t) = false := by cases t <;> rfl
                clear bx bn b79 lsm hy HX6 SM7 B7 BN
                obtain ⟨UA, un, uc⟩ := u
                have hun : un = l.length := by rw [AL.out.len]; exact SM9.out.2.1.2.2.1.1
                subst hun
                have D := hide (Below.refl (w8.alloc (rbox c.s (sv c.u) (sv c.t))).heap.size (w8.alloc (rbox c.s (sv c.u) (sv c.t)))).drew
                replace SM9 := hide (SM9.out.step D.out)
                replace RA := hide (RA.out.step D.out)
                replace WU := hide (WU.out.step D.out)
                replace WT := hide (WT.out.step D.out)
                replace NS := hide (NS.out.step D.out)
                replace XA := hide (XA.out.step D.out)
                replace XC := hide (XC.out.step D.out)
                replace B9 := hide (Below.step B9.out B9.out.size D.out)
                have KC := hide (show ∀ W, Below (w8.alloc (rbox c.s (sv c.u) (sv c.t))).drew.heap.size (w8.alloc (rbox c.s (sv c.u) (sv c.t))).drew W → W.cell? ⟨m, 1, none⟩ = some (.slice UA l.length uc) ∧ (W.cell? ⟨w6.heap.size, 0, none⟩ = some (.bool a.s) ∧ W.cell? ⟨w6.heap.size, 1, none⟩ = some (sv a.u) ∧ W.cell? ⟨w6.heap.size, 2, none⟩ = some (sv a.t)) ∧ (W.cell? ⟨w8.heap.size, 0, none⟩ = some (.bool c.s) ∧ W.cell? ⟨w8.heap.size, 1, none⟩ = some (sv c.u) ∧ W.cell? ⟨w8.heap.size, 2, none⟩ = some (sv c.t)) from fun W h => ⟨(SM9.out.step h).2.1.1.c, bqt (XA.out.step h), bqt (XC.out.step h)⟩)
                have B6 := hide (Below.refl (w8.alloc (rbox c.s (sv c.u) (sv c.t))).drew.heap.size (w8.alloc (rbox c.s (sv c.u) (sv c.t))).drew)
                clear D
                have ll0 : ((l.length : Int) != (l.length : Int)) = false := by simp
                have ll1 : (l.length != l.length) = false := by simp
                go_wp2_with fail
                obtain ⟨n9, hll⟩ : ∃ n9, n9 = l.length := ⟨_, rfl⟩
                have HLL := hide hll
                rw [← hll] at KC ll0 ll1
                clear hll
                generalize (w8.alloc (rbox c.s (sv c.u) (sv c.t))) = w9 at *
                go_region_held3 (fun W => W.cell? ⟨m, 1, none⟩ = some (.slice UA n9 uc) ∧ (W.cell? ⟨w6.heap.size, 0, none⟩ = some (.bool a.s) ∧ W.cell? ⟨w6.heap.size, 1, none⟩ = some (sv a.u) ∧ W.cell? ⟨w6.heap.size, 2, none⟩ = some (sv a.t)) ∧ (W.cell? ⟨w8.heap.size, 0, none⟩ = some (.bool c.s) ∧ W.cell? ⟨w8.heap.size, 1, none⟩ = some (sv c.u) ∧ W.cell? ⟨w8.heap.size, 2, none⟩ = some (sv c.t)))
                  (with_reducible exact KC.out _ B6.out)
                  (first
                    | (go_at_call 19; refine Calls.mono (qlen_c (SM9.out.step B6.out).1) ?_; rintro e wx ⟨rfl, bx⟩; rw [← HLL.out]; replace B6 := hide (Below.step1 B6.out bx); clear bx)
                    | (go_at_call 20; refine Calls.mono (rlsame_c (NS.out.step B6.out)) ?_; rintro e wx ⟨rfl, bx⟩; replace B6 := hide (Below.step1 B6.out bx); clear bx))
                all_goals
                  have SMF := hide (SM9.out.step B6.out)
                  have BF := hide (Below.step B9.out B9.out.size B6.out)
                  obtain ⟨-, ⟨a0, a1, a2⟩, -⟩ := KC.out _ B6.out
                  have RF := hide (RA.out.step B6.out)
                  have UF := hide (WU.out.step B6.out)
                  have TF := hide (WT.out.step B6.out)
                  have SZF := hide (show w6.heap.size ≤ _ from Nat.le_trans S69.out B6.out.size)
                  clear RA WU WT SM9 B9 KC NS XA XC
                  go_wp2_with fail
                  refine (rsp_c (B := wc.heap.size) RF.out UF.out TF.out (by have := S6.out; have := SZF.out; omega) w6.heap.size (fun h a e => by have := LY.out.1 h a e; omega) (fun h a e => by have := LY.out.2 h a e; omega)).mono ?_
                  rintro e wF ⟨rfl, sp⟩
                  have FS := hide (show Sq wF w1.heap.size g m z (k + 1) from ⟨l, r, v, _, SMF.out.spoil sp UN.out (Nat.le_refl _), HN.out, AL.out, HL.out⟩)
                  have FB := hide (show Below w1.heap.size w1 wF from BF.out.trans (sp.1.1.mono NWC.out))
                  clear sp SMF BF RF UF TF
                  go_wp2_with fail
                  exact ⟨⟨k + 1, by omega, by go_num, FB, FS⟩, by simp [intOf]; omega⟩
        · skip
          as_aux_lemma =>
            have hkn : k = ln := by omega
            subst hkn
            go_wp2_with fail
            go_loopw [163] (fun iv wy => ∃ j : Nat, j ≤ k ∧ iv = .int .i64 (j : Int) ∧ Hid (Below w1.heap.size w1 wy) ∧ Hid (Sq wy w1.heap.size g m z (k - j))) (fun iv _ => k - (intOf iv).toNat)
            case atStart => exact ⟨0, Nat.zero_le _, rfl, BL, SQ⟩
            case round =>
              clear BL SQ
              obtain ⟨j, hj, rfl, BX, SX⟩ := hrel
              by_cases hlt2 : j < k
              · have l1 : (0 : Int) ≤ (j : Int) := by omega
                have l2 : (j : Int) < (k : Int) := by omega
                have KL := hide (show k ≤ 1759218604390 by have := L9.out; omega)
                have hk9 : k ≤ 1759218604390 := KL.out
                obtain ⟨l, r, v, u, sm, hn, al, hl⟩ := SX.out
                have SM := hide sm
                have HN := hide hn
                have AL := hide al
                have HL := hide hl
                clear sm hn al hl SX
                go_wp2_with fail
                refine (qpopb_c SM.out.1 HN.out (by have := HL.out; have := KL.out; omega)).mono ?_
                rintro e w6 ⟨x1, t, v6, l6, rfl, q6, h6, ef, hx⟩
                have sm6 := SM.out.q q6 ef
                have bn := bal1 w6 (nbox x1)
                have SM7 := hide (sm6.step bn)
                have UN := hide sm6.und
                have H6 := hide h6
                have HX6 := hide hx
                have N1 := hide (Nq.new w6 x1)
                have BN := hide bn
                have B6 := BX.out.trans ef.1
                have B7 := hide (Below.step B6 B6.size bn)
                clear q6 h6 ef hx sm6 bn B6 SM BX
                go_wp2_with fail
                generalize (w6.alloc (nbox x1)) = w7 at *
                refine (rpopb_c SM7.out.2.1).mono ?_
                rintro e w8 ⟨z1, s, u8, r8, rfl, q8, ef8, hy⟩
                obtain ⟨hts, al', hle, hf, hk9, hne⟩ := AL.out.pops HX6.out hy
                subst hts
                have N8 := N1.out.ch (Ch.efq ef8) (fun hb => by
                  have h1 := UN.out.2.1
                  have h2 := UN.out.2.2.2.1
                  rcases hb with hb | hb
                  · omega
                  · have := h2 _ hb; omega)
                have bn := bal1 w8 (nbox z1)
                have NX := hide (N8.step bn)
                have NY := hide (Nq.new w8 z1)
                have NS := hide (Nsm.of (W := w8.alloc (nbox z1)) hk9 (fun p => ((p.step BN.out).efr ef8 SM7.out.2.1).step bn) (fun q => q.step bn))
                have B8 := B7.out.trans ef8.1
                have B9 := hide (Below.step B8 B8.size bn)
                have HNE := hide hne
                have HLE := hide hle
                have S9 := hide (show Sq (w8.alloc (nbox z1)) w1.heap.size g m z (k - (j + 1)) from ⟨l6, r8, v6, u8, (SM7.out.r q8 ef8).step bn, H6.out, al', by have h1 := HL.out; exact len_less (b := k - j) HNE.out h1 (by omega)⟩)
                have tt : (t != t) = false := by cases t <;> rfl
                obtain ⟨a0, a1, a2, a3, a4⟩ := NX.out.all
                obtain ⟨c0, c1, c2, c3, c4⟩ := NY.out.all
                clear q8 ef8 hy al' hle hf hk9 hne N8 bn B8 SM7 B7 HX6 N1 AL HN NX NY
                go_wp2_with fail
                generalize (w8.alloc (nbox z1)) = w9 at *
                refine (rnsameb_c NS.out).mono ?_
                rintro e wA ⟨rfl, bx⟩
                have FIN := hide (And.intro (Below.step B9.out B9.out.size bx) (S9.out.step bx))
                clear bx a0 a1 a2 a3 a4 c0 c1 c2 c3 c4 NS B9 S9
                go_wp2_with fail
                exact ⟨⟨j + 1, by omega, by go_num, hide FIN.out.1, hide FIN.out.2⟩, by simp [intOf]; omega⟩
              · have hjk : j = k := by omega
                subst hjk
                obtain ⟨l, r, v, u, sm, hn, al, hl⟩ := SX.out
                have hl0 : l = [] := List.eq_nil_of_length_eq_zero (by omega)
                subst hl0
                have SM := hide sm
                clear sm hn al hl SX
                go_wp2_with fail
                refine (qlen_c SM.out.1).mono ?_
                rintro e wy ⟨rfl, bx⟩
                have FB := hide (KP.out _ (Below.step BX.out BX.out.size bx)).2
                clear bx SM
                go_wp2_with fail
                go_ret
                exact ⟨rfl, FB.out⟩
end Go.Proofs.YtpfeacdhplbblaaGreat
