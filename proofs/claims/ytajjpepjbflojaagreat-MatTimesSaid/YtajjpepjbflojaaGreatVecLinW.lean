/-
  The walk of VecLinear: true.
-/
import Derived.Test.YtajjpepjbflojaaGreatVec10
import Derived.Test.YtajjpepjbflojaaGreatLat2


namespace Go.Proofs.YtajjpepjbflojaaGreat
open Go.RowKit Go.Proofs.YtajjpepjbflojaaGreat.Num
set_option linter.unusedVariables false
set_option linter.unusedSimpArgs false
set_option maxRecDepth 100000

/-- The loop's list: what stands at 7, 6, .. -/
def Xs (ts : List Tm) (k : Nat) (l : List Rx) : Prop := l.length = k ∧ ∀ (j : Nat) (x : Rx), l[j]? = some x → x.r = gt ts (7 - (j : Int))
theorem Xs.push {ts : List Tm} {k : Nat} {l : List Rx} {z : Rx} (h : Xs ts k l) (hz : z.r = gt ts (7 - (k : Int))) : Xs ts (k + 1) (l ++ [z]) := by
  refine ⟨by simp [h.1], fun j x hj => ?_⟩
  by_cases hl : j < l.length
  · rw [List.getElem?_append_left hl] at hj
    exact h.2 j x hj
  · rw [List.getElem?_append_right (by omega)] at hj
    have hj2 := (List.getElem?_eq_some_iff.1 hj).1
    simp at hj2
    have e : j = l.length := by omega
    subst e
    simp at hj
    subst hj
    rw [hz, h.1]
def Fg (W : World) (B : Nat) (v : Value) (l : List Rx) (K : Nat) : Prop := Ow 26 er 3 W B v l ∧ ∀ x ∈ l, Rg W B x K
theorem Fg.step {W W' : World} {B : Nat} {v : Value} {l : List Rx} {K : Nat} (h : Fg W B v l K) (hb : Below W.heap.size W W') : Fg W' B v l K := ⟨h.1.step hb, fun x hx => (h.2 x hx).step hb⟩
theorem Fg.fv {W : World} {B : Nat} {v : Value} {l : List Rx} {K : Nat} (h : Fg W B v l K) : Fv W v l K := ⟨h.1.rl er_len, fun x hx => (h.2 x hx).ra⟩
theorem Fg.push {W W' : World} {B K : Nat} {v v' : Value} {os : List Rx} {y : Rx} (T : Fg W B v os K) (ho : Ow 26 er 3 W' B v' (os ++ [y])) (hg : W.grownBy W' v.ownBlock) (ry : Rg W B y K) : Fg W' B v' (os ++ [y]) K := by
  refine ⟨ho, fun x hx => ?_⟩
  rcases List.mem_append.1 hx with h | h
  · exact (T.2 x h).grownT hg (fun g e => T.1.ot3 g e)
  · simp at h
    subst h
    exact ry.grownT hg (fun g e => T.1.ot3 g e)
theorem big_words {W : World} {x : Rx} {r : Rat} (h : Ra W (rx x) r 17592186043904) {m : Nat} (hm : m = x.u.2.1 + x.t.2.1) (h6 : ¬ 6 < m) : Ra W (rx x) r 6 := h.tight (by omega) (by omega)
/-- The law. -/
theorem linear {a : Rat} {f : Int → Rat} {g : List Tm} {v w : List Tm} {n : Nat} (hf : ∀ c, c < 0 ∨ (n : Int) ≤ c → f c = 0) (hg : ∀ c, 0 ≤ c → gsum g c = a * gsum v c + gsum w c) : dt g f = a * dt v f + dt w f := by
  rw [dt_sum g n f hf, dt_sum v n f hf, dt_sum w n f hf, ← sm_mul, ← sm_add]
  refine sm_congr (fun i _ => ?_)
  have h := hg (i : Int) (by omega)
  simp only [gt, if_pos (show (0 : Int) ≤ (i : Int) by omega), h]
  grind
theorem minus {v : List Tm} {d : List Tx} (h1 : Fm (tms d)) (h2 : ∀ c, 0 ≤ c → gsum (tms d) c = ((-1 : Int) : Rat) * gsum v c + gsum v c) : tms d = tms [] :=
  Fm.unique h1 Fm.nil (fun c hc => by rw [h2 c hc, show ((-1 : Int) : Rat) = -1 from rfl]; simp only [gsum, tms, List.map_nil]; grind)

theorem Firm2.rxq (x : Rx) (q : Rat) (L : Nat) : Firm2 (fun W => x.r = q ∧ Rc W (rx x) x.r L) := Firm2.and (G := fun W => Rc W (rx x) x.r L) ⟨fun _ _ h _ => h, fun _ _ _ _ h _ => h⟩ (Firm2.rc _ _ _)
theorem mul_q {w : World} {a : Value} {y : Rx} {r1 q : Rat} {L M : Nat} (ha : Ra w a r1 L) (hb : y.r = q ∧ Rc w (rx y) y.r M) (h1 : 1 ≤ L) (h2 : 1 ≤ M) (hL : L ≤ 1000000000000) (hM : M ≤ 1000000000000) :
    Calls Tryz.prog 23 #[a, rx y] w (RgRet w (r1 * q) (L + M)) := by
  have h := mul_g ha hb.2.ra h1 h2 hL hM
  rwa [hb.1] at h
theorem add_q {w : World} {x y : Rx} {p q : Rat} {L M : Nat} (ha : x.r = p ∧ Rc w (rx x) x.r L) (hb : y.r = q ∧ Rc w (rx y) y.r M) (h1 : 1 ≤ L) (h2 : 1 ≤ M) (hL : L ≤ 1000000000000) (hM : M ≤ 1000000000000) :
    Calls Tryz.prog 21 #[rx x, rx y] w (RgRet w (p + q) (L + M + 1)) := by
  have h := add_g ha.2.ra hb.2.ra h1 h2 hL hM
  rwa [ha.1, hb.1] at h

set_option maxHeartbeats 16000000 in
theorem vlinear_true (w : World) (a0 : Rx) (ra : Rat) (v u : Value) (d f : List Tx) (ha : Ra w (rx a0) ra 17592186043904) (hv : Tv w v d 17592186043904) (hu : Tv w u f 17592186043904) :
    Calls Tryz.prog 8 #[rx a0, v, u] w fun e w' => e = .returned (.bool true) ∧ Below w.heap.size w w' := by
  obtain ⟨A1, n1, c1, rfl⟩ := rv_sl hv.1
  obtain ⟨A2, n2, c2, rfl⟩ := rv_sl hu.1
  have b0 := alloc_below w (rbox a0.s (sv a0.u) (sv a0.t))
  have Q := hide (Bq.new w a0.s (sv a0.u) (sv a0.t))
  have HA := hide (ha.step b0)
  have HV := hide (hv.step b0)
  have HU := hide (hu.step b0)
  have B := hide b0
  obtain ⟨i0, hi, hz0, hz1, hz2⟩ := info_parts info_rt
  clear ha hv hu b0
  go_enter Tryz.func8, Tryz.ntmps8
  go_wp2_with fail
  refine (vspeaks_true _).mono ?_
  rintro e w1 ⟨rfl, bx⟩
  replace Q := hide (Q.out.step bx)
  replace HA := hide (HA.out.step bx)
  replace HV := hide (HV.out.step bx)
  replace HU := hide (HU.out.step bx)
  replace B := hide (Below.step B.out B.out.size bx)
  clear bx
  go_wp2_with fail
  refine (great_c HV.out (by omega)).mono ?_
  rintro e w2 ⟨bx, p, rfl, hp⟩
  replace Q := hide (Q.out.step bx)
  replace HA := hide (HA.out.step bx)
  replace HV := hide (HV.out.step bx)
  replace HU := hide (HU.out.step bx)
  replace B := hide (Below.step B.out B.out.size bx)
  have HP := hide hp
  clear bx hp
  cases p with
  | true =>
    go_wp2_with fail
    go_ret
    exact ⟨rfl, B.out⟩
  | false =>
    obtain ⟨dl, dw⟩ := HP.out rfl
    replace HV := hide (HV.out.tight dw)
    have DL := hide dl
    clear dl dw HP
    go_wp2_with fail
    refine (great_c HU.out (by omega)).mono ?_
    rintro e w3 ⟨bx, p, rfl, hp⟩
    replace Q := hide (Q.out.step bx)
    replace HA := hide (HA.out.step bx)
    replace HV := hide (HV.out.step bx)
    replace HU := hide (HU.out.step bx)
    replace B := hide (Below.step B.out B.out.size bx)
    have HP := hide hp
    clear bx hp
    cases p with
    | true =>
      go_wp2_with fail
      go_ret
      exact ⟨rfl, B.out⟩
    | false =>
      obtain ⟨dl, dw⟩ := HP.out rfl
      replace HU := hide (HU.out.tight dw)
      have FL := hide dl
      clear dl dw HP
      obtain ⟨p0, p1, p2⟩ := bq3 Q.out
      go_wp2_with fail
      refine (words_x HA.out (by omega)).mono ?_
      rintro e w4 ⟨rfl, bx⟩
      replace Q := hide (Q.out.step bx)
      replace HA := hide (HA.out.step bx)
      replace HV := hide (HV.out.step bx)
      replace HU := hide (HU.out.step bx)
      replace B := hide (Below.step B.out B.out.size bx)
      obtain ⟨m, hm⟩ : ∃ m, m = a0.u.2.1 + a0.t.2.1 := ⟨_, rfl⟩
      rw [← hm]
      have HM := hide hm
      clear bx p0 p1 p2 hm
      by_cases h6 : 6 < m
      · have t1 : decide ((6 : Int) < (m : Int)) = true := decide_eq_true (by omega)
        go_wp2_with fail
        go_ret
        exact ⟨rfl, B.out⟩
      · have t1 : decide ((6 : Int) < (m : Int)) = false := decide_eq_false (by omega)
        replace HA := hide (big_words HA.out HM.out h6)
        have al := alloc_below w4 (.cells #[] 26)
        have X4 := hide (show Fg (w4.alloc (.cells #[] 26)) w4.heap.size (.slice (some ⟨w4.heap.size, 0, none⟩) 0 0) [] 300 from ⟨Ow.lit (B := w4.heap.size) er_len w4 26 ([] : List Rx) #[] rfl (Nat.le_refl _) (by simp [maxLen]), fun x hx => by cases hx⟩)
        have B4 := hide (show Below w4.heap.size w4 (w4.alloc (.cells #[] 26)) from al)
        clear al h6
        go_wp2_with fail
        generalize (w4.alloc (.cells #[] 26)) = w5 at *
        go_loopw [7, 8] (fun xv iv wr => ∃ (k : Nat) (l : List Rx), k ≤ 8 ∧ iv = .int .i64 (k : Int) ∧ Hid (Below w4.heap.size w4 wr) ∧ Hid (Fg wr w4.heap.size xv l 300) ∧ Hid (Xs (tms f) k l)) (fun _ iv _ => 8 - (intOf iv).toNat)
        case atStart => exact ⟨0, [], by omega, rfl, B4, X4, hide ⟨rfl, fun j x h => by simp at h⟩⟩
        case round =>
          obtain ⟨k, l, hk, rfl, BW, XW, XS⟩ := hrel
          obtain ⟨A9, n9, c9, rfl⟩ : ∃ A n c, u7 = .slice A n c := by
            rcases XW.out.1.form with ⟨rfl, _⟩ | ⟨g, cap, cur, rfl, _⟩
            · exact ⟨_, _, _, rfl⟩
            · exact ⟨_, _, _, rfl⟩
          by_cases hlt : k < 8
          · have t2 : decide ((k : Int) < 8) = true := decide_eq_true (by omega)
            have hw : IntKind.i64.wrap (7 - (k : Int)) = 7 - (k : Int) := IntWalk.i64_in _ (by omega)
            have GU := hide (HU.out.step BW.out)
            go_wp2_with fail
            refine (get_g (col := 7 - (k : Int)) GU.out (by have := FL.out; omega) (by omega) (by omega)).mono ?_
            rintro e w6 ⟨z, rfl, hz, rz, bx⟩
            have ZR := hide (show Rg w6 w4.heap.size z 300 from (rz.mono BW.out.size).more (by have := FL.out; omega))
            have HZ := hide hz
            have X6 := hide (XW.out.step bx)
            have B6 := hide (Below.step BW.out BW.out.size bx)
            have HLL := hide (show l.length + 1 ≤ 1000000000000 by have := XS.out.1; omega)
            clear bx rz hz BW XW GU
            go_wp2_with (at_builtin; go_must (refine wpList_pushE rfl (.tmp 29) (.tmp 34) 37 rfl Tryz.underlying37 hi hz0 hz1 hz2 rfl (by omega) er_len er_one w6 w4.heap.size _ l z _ rfl X6.out.1 rfl rfl HLL.out (by decide) B6.out.size ?_); intro v' w' ho hg; have F2 := hide (X6.out.push ho hg.1 ZR.out); have F3 := hide (below_own B6.out X6.out.1 hg.1 B6.out.size); clear ho hg)
            exact ⟨⟨k + 1, l ++ [z], by omega, by go_num, F3, F2, hide (XS.out.push HZ.out)⟩, by simp [intOf]; omega⟩
          · obtain rfl : k = 8 := by omega
            have Q5 := hide (Q.out.step BW.out)
            have A5 := hide (HA.out.step BW.out)
            have V5 := hide (HV.out.step BW.out)
            have U5 := hide (HU.out.step BW.out)
            have C5 := hide (Below.step B.out B.out.size BW.out)
            have F5 := hide XW.out.fv
            obtain ⟨p0, p1, p2⟩ := bq3 Q5.out
            clear Q HA HV HU B BW XW B4 X4
            go_wp2_with fail
            -- GEN
            refine (axpy_t A5.out V5.out U5.out (by have := DL.out; have := FL.out; omega) (by omega) (by omega) (by omega) (by omega)).mono ?_
            rintro e w6 ⟨v9, d9, rfl, t9, f9, g9, n9', b9⟩
            have N9 := hide (show d9.length ≤ 60 by have := DL.out; have := FL.out; omega)
            have T9 := hide ((t9.more (M := 1000) (by have := DL.out; have := FL.out; omega)).tv)
            have G9 := hide g9
            obtain ⟨Ax, n7, c7, rfl⟩ := rv_sl t9.tv.1
            have Q6 := hide (Q5.out.step b9)
            have A6 := hide (A5.out.step b9)
            have V6 := hide (V5.out.step b9)
            have U6 := hide (U5.out.step b9)
            have C6 := hide (Below.step C5.out C5.out.size b9)
            have F6 := hide (F5.out.step b9)
            clear t9 f9 g9 n9' b9 Q5 A5 V5 U5 C5 F5 p0 p1 p2
            go_wp2_with fail
            refine (dot_g T9.out F6.out (by have := N9.out; omega) (by omega) (by omega) (by omega) (by omega)).mono ?_
            rintro e wa ⟨xd, rfl, hd, rd, b9⟩
            have al := alloc_below wa (rbox xd.s (sv xd.u) (sv xd.t))
            have D6 := hide (rd.1.step al)
            have HX := hide (show xd.r = ra * (dt (tms d) (xf l)) + dt (tms f) (xf l) from hd.trans (linear (n := 8) (fun c hc => xf_out l c (by rw [XS.out.1]; exact hc)) (fun c hc => G9.out c hc)))
            have A7 := hide ((A6.out.step b9).step al)
            have V7 := hide ((V6.out.step b9).step al)
            have U7 := hide ((U6.out.step b9).step al)
            have F7 := hide ((F6.out.step b9).step al)
            have B9 := Below.step (Below.step C6.out C6.out.size b9) (Below.step C6.out C6.out.size b9).size al
            replace C6 := hide B9
            have QA := hide ((Q6.out.step b9).step al)
            replace Q6 := hide (Bq.new wa xd.s (sv xd.u) (sv xd.t))
            clear rd hd b9 al A6 V6 U6 F6 T9 B9
            go_wp2_with fail
            generalize (wa.alloc (rbox xd.s (sv xd.u) (sv xd.t))) = wb at *
            have bx := Below.drew (Below.refl wb.heap.size wb)
            replace Q6 := hide (Q6.out.step bx)
            replace D6 := hide (D6.out.step bx)
            replace A7 := hide (A7.out.step bx)
            replace V7 := hide (V7.out.step bx)
            replace U7 := hide (U7.out.step bx)
            replace F7 := hide (F7.out.step bx)
            replace C6 := hide (Below.step C6.out C6.out.size bx)
            replace QA := hide (QA.out.step bx)
            clear bx
            obtain ⟨p0, p1, p2⟩ := bq3 QA.out
            refine wp_region_held_drew (S := fun W => Below wb.drew.heap.size wb.drew W) (by kernel_rfl) (Below.refl _ _) (fun hHeld => ?_)
            refine wpAnyH_with 1 #[true, true, true, true, true, true, true, true, true, true, false] (fun a W => ∃ (y1 : Rx) (y2 : Rx) (y3 : Rx) (y4 : Rx) (g0 : Nat), a = ⟨#[rx a0, .slice A1 n1 c1, .slice A2 n2 c2, .pointer (some ⟨w.heap.size, 0, none⟩), undef, undef, .bool false, .slice A9 n9 c9, .int .i64 ((8 : Nat) : Int), .pointer (some ⟨wa.heap.size, 0, none⟩), .pointer (some ⟨g0, 0, none⟩), .bool true, .bool false, .slice A1 n1 c1, .bool false, .bool false, .slice A2 n2 c2, .bool false, .bool false, .bool false, .agg #[.bool a0.s, sv a0.u, sv a0.t], .int .i64 (m : Int), .bool false, .bool false, .slice (some ⟨w4.heap.size, 0, none⟩) 0 0, .int .i64 ((8 : Nat) : Int), .bool false, u27, u28, u29, u30, u31, u32, u33, u34, u35, .agg #[.bool a0.s, sv a0.u, sv a0.t], .slice A1 n1 c1, .slice A2 n2 c2, .slice Ax n7 c7, .slice A9 n9 c9, rx xd, .agg #[.bool a0.s, sv a0.u, sv a0.t], .slice A1 n1 c1, .slice A9 n9 c9, rx y1, rx y2, .slice A2 n2 c2, .slice A9 n9 c9, rx y3, rx y4, undef, undef, undef, undef, undef, undef, undef, undef, undef, undef], []⟩ ∧ Sg wb.drew.heap.size wb.drew W [rblk] [some g0] (fun W => ((((True ∧ (y1.r = dt (tms d) (xf l) ∧ Rc W (rx y1) y1.r 10000)) ∧ (y2.r = ra * (dt (tms d) (xf l)) ∧ Rc W (rx y2) y2.r 11000)) ∧ (y3.r = dt (tms f) (xf l) ∧ Rc W (rx y3) y3.r 10000)) ∧ (y4.r = ra * (dt (tms d) (xf l)) + dt (tms f) (xf l) ∧ Rc W (rx y4) y4.r 22000)))) ?_ (fun Hs41 => ?_)
            · rintro a W ⟨y1, y2, y3, y4, g0, rfl, st0⟩
              have hHeld := st0.1
              have st := hide st0
              clear st0
              obtain ⟨k0, f0⟩ := Sg.cells st.out 0 g0 #[.bool false, .slice none 0 0, .slice none 0 0] 26 rfl rfl 0
              obtain ⟨k1, f1⟩ := Sg.cells st.out 0 g0 #[.bool false, .slice none 0 0, .slice none 0 0] 26 rfl rfl 1
              obtain ⟨k2, f2⟩ := Sg.cells st.out 0 g0 #[.bool false, .slice none 0 0, .slice none 0 0] 26 rfl rfl 2
              simp only [List.getElem?_toArray, List.getElem?_cons_zero, List.getElem?_cons_succ] at k0
              simp only [List.getElem?_toArray, List.getElem?_cons_zero, List.getElem?_cons_succ] at k1
              simp only [List.getElem?_toArray, List.getElem?_cons_zero, List.getElem?_cons_succ] at k2
              have st9 := st.out
              have st9 := Sg.put st9 (Firm2.and (Firm2.and (Firm2.and (Firm2.and Firm2.yes (Firm2.rxq _ _ _)) (Firm2.rxq _ _ _)) (Firm2.rxq _ _ _)) (Firm2.rxq _ _ _)) 0 g0 0 _ 26 (.bool y4.s) rfl rfl rfl
              have st9 := Sg.put st9 (Firm2.and (Firm2.and (Firm2.and (Firm2.and Firm2.yes (Firm2.rxq _ _ _)) (Firm2.rxq _ _ _)) (Firm2.rxq _ _ _)) (Firm2.rxq _ _ _)) 0 g0 1 _ 26 (sv y4.u) rfl rfl rfl
              have st9 := Sg.put st9 (Firm2.and (Firm2.and (Firm2.and (Firm2.and Firm2.yes (Firm2.rxq _ _ _)) (Firm2.rxq _ _ _)) (Firm2.rxq _ _ _)) (Firm2.rxq _ _ _)) 0 g0 2 _ 26 (sv y4.t) rfl rfl rfl
              have st8 := hide st9
              clear st9
              refine wpAnyH_ready (rs := [10]) (by kernel_rfl) (by simp) ?_
              refine AllReadyH.cons rfl (fun K hK => ?_) ?_
              rotate_left
              · exact AllReadyH.nil
              go_simp
              refine hK.out _ _ st8.out.1 (fun hHeld => ?_)
              clear hK K k0 f0 k1 f1 k2 f2 st
              (try simp only [Act.put, List.setIfInBounds_toArray, List.set_cons_zero, List.set_cons_succ])
              generalize (((W.setCell ⟨g0, 0, none⟩ _).setCell ⟨g0, 1, none⟩ _).setCell ⟨g0, 2, none⟩ _) = W5 at *
              have st := st8
              clear st8
              refine wpAnyH_done (by kernel_rfl) ?_ _
              clear hHeld
              have s9 := st.out
              have Y4 := hide s9.2.2.1.2
              have K4 := hide (show Bq W5 g0 y4.s (sv y4.u) (sv y4.t) from (s9.2.2.2.1 0 g0 _ rfl rfl).1)
              have Q7 := hide (Q6.out.step s9.1)
              have D7 := hide (D6.out.step s9.1)
              have V8 := hide (V7.out.step s9.1)
              have C7 := hide (Below.step C6.out C6.out.size s9.1)
              clear s9 st
              generalize W5 = wz at *
              obtain ⟨p0, p1, p2⟩ := bq3 Q7.out
              obtain ⟨q0, q1, q2⟩ := bq3 K4.out
              go_wp2_with fail
              refine (rsame_c D7.out (show Rc wz (rx y4) xd.r 22000 by rw [HX.out, ← Y4.out.1]; exact Y4.out.2)).mono ?_
              rintro e wy ⟨rfl, bx⟩
              have V9 := hide (V8.out.step bx)
              have C8 := hide (Below.step C7.out C7.out.size bx)
              clear bx p0 p1 p2 q0 q1 q2 Q7 D7 V8 C7 K4 Y4
              go_wp2_with fail
              refine (whole_o wy (-1) (by omega) (by omega)).mono ?_
              rintro e w10 ⟨x1, rfl, h1, r1, bx⟩
              have C9 := hide (Below.step C8.out C8.out.size bx)
              have V10 := hide (V9.out.step bx)
              have X1 := hide (show Ra w10 (rx x1) ((-1 : Int) : Rat) 1 by rw [← h1]; exact r1.ra)
              clear bx h1 r1 V9 C8
              go_wp2_with fail
              refine (axpy_t X1.out V10.out V10.out (by have := DL.out; omega) (by omega) (by omega) (by omega) (by omega)).mono ?_
              rintro e w11 ⟨v11, d11, rfl, t11, f11, g11, n11, bx⟩
              have C10 := hide (Below.step C9.out C9.out.size bx)
              have T11 := hide t11.tc
              have M11 := hide (minus f11 g11)
              obtain ⟨A6, n6, c6, rfl⟩ := rv_sl t11.tc.1
              clear bx t11 f11 g11 n11 C9 V10 X1
              go_wp2_with fail
              refine (same_t T11.out ⟨Lr.nil et 4 _, fun x hx => by cases hx⟩ (f := []) (M := 1) M11.out).mono ?_
              rintro e w12 ⟨rfl, bx⟩
              have C11 := hide (Below.step C10.out C10.out.size bx)
              clear bx T11 C10
              go_wp2_with fail
              go_ret
              exact ⟨rfl, C11.out⟩
            refine wpAnyH_with 2 #[true, true, true, true, true, true, true, true, true, false, false] (fun a W => ∃ (y1 : Rx) (y2 : Rx) (y3 : Rx) (y4 : Rx), a = ⟨#[rx a0, .slice A1 n1 c1, .slice A2 n2 c2, .pointer (some ⟨w.heap.size, 0, none⟩), undef, undef, .bool false, .slice A9 n9 c9, .int .i64 ((8 : Nat) : Int), .pointer (some ⟨wa.heap.size, 0, none⟩), undef, .bool true, .bool false, .slice A1 n1 c1, .bool false, .bool false, .slice A2 n2 c2, .bool false, .bool false, .bool false, .agg #[.bool a0.s, sv a0.u, sv a0.t], .int .i64 (m : Int), .bool false, .bool false, .slice (some ⟨w4.heap.size, 0, none⟩) 0 0, .int .i64 ((8 : Nat) : Int), .bool false, u27, u28, u29, u30, u31, u32, u33, u34, u35, .agg #[.bool a0.s, sv a0.u, sv a0.t], .slice A1 n1 c1, .slice A2 n2 c2, .slice Ax n7 c7, .slice A9 n9 c9, rx xd, .agg #[.bool a0.s, sv a0.u, sv a0.t], .slice A1 n1 c1, .slice A9 n9 c9, rx y1, rx y2, .slice A2 n2 c2, .slice A9 n9 c9, rx y3, rx y4, undef, undef, undef, undef, undef, undef, undef, undef, undef, undef], []⟩ ∧ Sg wb.drew.heap.size wb.drew W [rblk] [none] (fun W => ((((True ∧ (y1.r = dt (tms d) (xf l) ∧ Rc W (rx y1) y1.r 10000)) ∧ (y2.r = ra * (dt (tms d) (xf l)) ∧ Rc W (rx y2) y2.r 11000)) ∧ (y3.r = dt (tms f) (xf l) ∧ Rc W (rx y3) y3.r 10000)) ∧ (y4.r = ra * (dt (tms d) (xf l)) + dt (tms f) (xf l) ∧ Rc W (rx y4) y4.r 22000)))) ?_ (fun Hs40 => ?_)
            · rintro a W ⟨y1, y2, y3, y4, rfl, st0⟩
              have hHeld := st0.1
              have st := hide st0
              clear st0
              refine wpAnyH_ready (rs := [9]) (by kernel_rfl) (by simp) ?_
              refine AllReadyH.cons rfl (fun K hK => ?_) ?_
              · go_simp
                have st2 := Sg.make st.out (Firm2.and (Firm2.and (Firm2.and (Firm2.and Firm2.yes (Firm2.rxq _ _ _)) (Firm2.rxq _ _ _)) (Firm2.rxq _ _ _)) (Firm2.rxq _ _ _)) 0 _ rfl (by simp)
                refine hK.out _ _ st2.1 (fun hHeld => ?_)
                (try simp only [Act.put, List.setIfInBounds_toArray, List.set_cons_zero, List.set_cons_succ])
                exact Hs41.out _ _ ⟨y1, y2, y3, y4, W.heap.size, rfl, st2⟩
              exact AllReadyH.nil
            refine wpAnyH_with 2 #[true, true, true, true, true, true, true, true, false, true, false] (fun a W => ∃ (y1 : Rx) (y2 : Rx) (y3 : Rx) (g0 : Nat), a = ⟨#[rx a0, .slice A1 n1 c1, .slice A2 n2 c2, .pointer (some ⟨w.heap.size, 0, none⟩), undef, undef, .bool false, .slice A9 n9 c9, .int .i64 ((8 : Nat) : Int), .pointer (some ⟨wa.heap.size, 0, none⟩), .pointer (some ⟨g0, 0, none⟩), .bool true, .bool false, .slice A1 n1 c1, .bool false, .bool false, .slice A2 n2 c2, .bool false, .bool false, .bool false, .agg #[.bool a0.s, sv a0.u, sv a0.t], .int .i64 (m : Int), .bool false, .bool false, .slice (some ⟨w4.heap.size, 0, none⟩) 0 0, .int .i64 ((8 : Nat) : Int), .bool false, u27, u28, u29, u30, u31, u32, u33, u34, u35, .agg #[.bool a0.s, sv a0.u, sv a0.t], .slice A1 n1 c1, .slice A2 n2 c2, .slice Ax n7 c7, .slice A9 n9 c9, rx xd, .agg #[.bool a0.s, sv a0.u, sv a0.t], .slice A1 n1 c1, .slice A9 n9 c9, rx y1, rx y2, .slice A2 n2 c2, .slice A9 n9 c9, rx y3, undef, undef, undef, undef, undef, undef, undef, undef, undef, undef, undef], []⟩ ∧ Sg wb.drew.heap.size wb.drew W [rblk] [some g0] (fun W => (((True ∧ (y1.r = dt (tms d) (xf l) ∧ Rc W (rx y1) y1.r 10000)) ∧ (y2.r = ra * (dt (tms d) (xf l)) ∧ Rc W (rx y2) y2.r 11000)) ∧ (y3.r = dt (tms f) (xf l) ∧ Rc W (rx y3) y3.r 10000)))) ?_ (fun Hs31 => ?_)
            · rintro a W ⟨y1, y2, y3, g0, rfl, st0⟩
              have hHeld := st0.1
              have st := hide st0
              clear st0
              refine wpAnyH_ready (rs := [8]) (by kernel_rfl) (by simp) ?_
              refine AllReadyH.cons rfl (fun K hK => ?_) ?_
              · go_simp
                go_at_call 21
                refine Calls.mono (add_q st.out.2.2.1.1.2 st.out.2.2.1.2 (by omega) (by omega) (by omega) (by omega)) ?_
                rintro e wx ⟨y4, rfl, hq, rq, bx⟩
                have tx := And.intro hq (rq.1.more (M := 22000) (by have := DL.out; have := FL.out; omega))
                clear hq rq
                try dsimp only
                have st2 := Sg.call (G := fun W => (y4.r = ra * (dt (tms d) (xf l)) + dt (tms f) (xf l) ∧ Rc W (rx y4) y4.r 22000)) st.out bx (Firm2.and (Firm2.and (Firm2.and Firm2.yes (Firm2.rxq _ _ _)) (Firm2.rxq _ _ _)) (Firm2.rxq _ _ _)) tx
                have hSt := hide st2
                refine hK.out _ _ st2.1 (fun hHeld => ?_)
                clear hK K st2
                (try simp only [Act.put, List.setIfInBounds_toArray, List.set_cons_zero, List.set_cons_succ])
                exact Hs41.out _ _ ⟨y1, y2, y3, y4, g0, rfl, hSt.out⟩
              exact AllReadyH.nil
            refine wpAnyH_with 3 #[true, true, true, true, true, true, true, true, false, false, false] (fun a W => ∃ (y1 : Rx) (y2 : Rx) (y3 : Rx), a = ⟨#[rx a0, .slice A1 n1 c1, .slice A2 n2 c2, .pointer (some ⟨w.heap.size, 0, none⟩), undef, undef, .bool false, .slice A9 n9 c9, .int .i64 ((8 : Nat) : Int), .pointer (some ⟨wa.heap.size, 0, none⟩), undef, .bool true, .bool false, .slice A1 n1 c1, .bool false, .bool false, .slice A2 n2 c2, .bool false, .bool false, .bool false, .agg #[.bool a0.s, sv a0.u, sv a0.t], .int .i64 (m : Int), .bool false, .bool false, .slice (some ⟨w4.heap.size, 0, none⟩) 0 0, .int .i64 ((8 : Nat) : Int), .bool false, u27, u28, u29, u30, u31, u32, u33, u34, u35, .agg #[.bool a0.s, sv a0.u, sv a0.t], .slice A1 n1 c1, .slice A2 n2 c2, .slice Ax n7 c7, .slice A9 n9 c9, rx xd, .agg #[.bool a0.s, sv a0.u, sv a0.t], .slice A1 n1 c1, .slice A9 n9 c9, rx y1, rx y2, .slice A2 n2 c2, .slice A9 n9 c9, rx y3, undef, undef, undef, undef, undef, undef, undef, undef, undef, undef, undef], []⟩ ∧ Sg wb.drew.heap.size wb.drew W [rblk] [none] (fun W => (((True ∧ (y1.r = dt (tms d) (xf l) ∧ Rc W (rx y1) y1.r 10000)) ∧ (y2.r = ra * (dt (tms d) (xf l)) ∧ Rc W (rx y2) y2.r 11000)) ∧ (y3.r = dt (tms f) (xf l) ∧ Rc W (rx y3) y3.r 10000)))) ?_ (fun Hs30 => ?_)
            · rintro a W ⟨y1, y2, y3, rfl, st0⟩
              have hHeld := st0.1
              have st := hide st0
              clear st0
              refine wpAnyH_ready (rs := [8, 9]) (by kernel_rfl) (by simp) ?_
              refine AllReadyH.cons rfl (fun K hK => ?_) ?_
              · go_simp
                go_at_call 21
                refine Calls.mono (add_q st.out.2.2.1.1.2 st.out.2.2.1.2 (by omega) (by omega) (by omega) (by omega)) ?_
                rintro e wx ⟨y4, rfl, hq, rq, bx⟩
                have tx := And.intro hq (rq.1.more (M := 22000) (by have := DL.out; have := FL.out; omega))
                clear hq rq
                try dsimp only
                have st2 := Sg.call (G := fun W => (y4.r = ra * (dt (tms d) (xf l)) + dt (tms f) (xf l) ∧ Rc W (rx y4) y4.r 22000)) st.out bx (Firm2.and (Firm2.and (Firm2.and Firm2.yes (Firm2.rxq _ _ _)) (Firm2.rxq _ _ _)) (Firm2.rxq _ _ _)) tx
                have hSt := hide st2
                refine hK.out _ _ st2.1 (fun hHeld => ?_)
                clear hK K st2
                (try simp only [Act.put, List.setIfInBounds_toArray, List.set_cons_zero, List.set_cons_succ])
                exact Hs40.out _ _ ⟨y1, y2, y3, y4, rfl, hSt.out⟩
              refine AllReadyH.cons rfl (fun K hK => ?_) ?_
              · go_simp
                have st2 := Sg.make st.out (Firm2.and (Firm2.and (Firm2.and Firm2.yes (Firm2.rxq _ _ _)) (Firm2.rxq _ _ _)) (Firm2.rxq _ _ _)) 0 _ rfl (by simp)
                refine hK.out _ _ st2.1 (fun hHeld => ?_)
                (try simp only [Act.put, List.setIfInBounds_toArray, List.set_cons_zero, List.set_cons_succ])
                exact Hs31.out _ _ ⟨y1, y2, y3, W.heap.size, rfl, st2⟩
              exact AllReadyH.nil
            refine wpAnyH_with 3 #[true, true, true, true, true, true, true, false, false, true, false] (fun a W => ∃ (y1 : Rx) (y2 : Rx) (g0 : Nat), a = ⟨#[rx a0, .slice A1 n1 c1, .slice A2 n2 c2, .pointer (some ⟨w.heap.size, 0, none⟩), undef, undef, .bool false, .slice A9 n9 c9, .int .i64 ((8 : Nat) : Int), .pointer (some ⟨wa.heap.size, 0, none⟩), .pointer (some ⟨g0, 0, none⟩), .bool true, .bool false, .slice A1 n1 c1, .bool false, .bool false, .slice A2 n2 c2, .bool false, .bool false, .bool false, .agg #[.bool a0.s, sv a0.u, sv a0.t], .int .i64 (m : Int), .bool false, .bool false, .slice (some ⟨w4.heap.size, 0, none⟩) 0 0, .int .i64 ((8 : Nat) : Int), .bool false, u27, u28, u29, u30, u31, u32, u33, u34, u35, .agg #[.bool a0.s, sv a0.u, sv a0.t], .slice A1 n1 c1, .slice A2 n2 c2, .slice Ax n7 c7, .slice A9 n9 c9, rx xd, .agg #[.bool a0.s, sv a0.u, sv a0.t], .slice A1 n1 c1, .slice A9 n9 c9, rx y1, rx y2, .slice A2 n2 c2, .slice A9 n9 c9, undef, undef, undef, undef, undef, undef, undef, undef, undef, undef, undef, undef], []⟩ ∧ Sg wb.drew.heap.size wb.drew W [rblk] [some g0] (fun W => ((True ∧ (y1.r = dt (tms d) (xf l) ∧ Rc W (rx y1) y1.r 10000)) ∧ (y2.r = ra * (dt (tms d) (xf l)) ∧ Rc W (rx y2) y2.r 11000)))) ?_ (fun Hs21 => ?_)
            · rintro a W ⟨y1, y2, g0, rfl, st0⟩
              have hHeld := st0.1
              have st := hide st0
              clear st0
              refine wpAnyH_ready (rs := [7]) (by kernel_rfl) (by simp) ?_
              refine AllReadyH.cons rfl (fun K hK => ?_) ?_
              · go_simp
                go_at_call 53
                refine Calls.mono (dot_g (U7.out.step st.out.1) (F7.out.step st.out.1) (by have := FL.out; omega) (by omega) (by omega) (by omega) (by omega)) ?_
                rintro e wx ⟨y3, rfl, hq, rq, bx⟩
                have tx := And.intro hq (rq.1.more (M := 10000) (by have := DL.out; have := FL.out; omega))
                clear hq rq
                try dsimp only
                have st2 := Sg.call (G := fun W => (y3.r = dt (tms f) (xf l) ∧ Rc W (rx y3) y3.r 10000)) st.out bx (Firm2.and (Firm2.and Firm2.yes (Firm2.rxq _ _ _)) (Firm2.rxq _ _ _)) tx
                have hSt := hide st2
                refine hK.out _ _ st2.1 (fun hHeld => ?_)
                clear hK K st2
                (try simp only [Act.put, List.setIfInBounds_toArray, List.set_cons_zero, List.set_cons_succ])
                exact Hs31.out _ _ ⟨y1, y2, y3, g0, rfl, hSt.out⟩
              exact AllReadyH.nil
            refine wpAnyH_with 4 #[true, true, true, true, true, true, true, false, false, false, false] (fun a W => ∃ (y1 : Rx) (y2 : Rx), a = ⟨#[rx a0, .slice A1 n1 c1, .slice A2 n2 c2, .pointer (some ⟨w.heap.size, 0, none⟩), undef, undef, .bool false, .slice A9 n9 c9, .int .i64 ((8 : Nat) : Int), .pointer (some ⟨wa.heap.size, 0, none⟩), undef, .bool true, .bool false, .slice A1 n1 c1, .bool false, .bool false, .slice A2 n2 c2, .bool false, .bool false, .bool false, .agg #[.bool a0.s, sv a0.u, sv a0.t], .int .i64 (m : Int), .bool false, .bool false, .slice (some ⟨w4.heap.size, 0, none⟩) 0 0, .int .i64 ((8 : Nat) : Int), .bool false, u27, u28, u29, u30, u31, u32, u33, u34, u35, .agg #[.bool a0.s, sv a0.u, sv a0.t], .slice A1 n1 c1, .slice A2 n2 c2, .slice Ax n7 c7, .slice A9 n9 c9, rx xd, .agg #[.bool a0.s, sv a0.u, sv a0.t], .slice A1 n1 c1, .slice A9 n9 c9, rx y1, rx y2, .slice A2 n2 c2, .slice A9 n9 c9, undef, undef, undef, undef, undef, undef, undef, undef, undef, undef, undef, undef], []⟩ ∧ Sg wb.drew.heap.size wb.drew W [rblk] [none] (fun W => ((True ∧ (y1.r = dt (tms d) (xf l) ∧ Rc W (rx y1) y1.r 10000)) ∧ (y2.r = ra * (dt (tms d) (xf l)) ∧ Rc W (rx y2) y2.r 11000)))) ?_ (fun Hs20 => ?_)
            · rintro a W ⟨y1, y2, rfl, st0⟩
              have hHeld := st0.1
              have st := hide st0
              clear st0
              refine wpAnyH_ready (rs := [7, 9]) (by kernel_rfl) (by simp) ?_
              refine AllReadyH.cons rfl (fun K hK => ?_) ?_
              · go_simp
                go_at_call 53
                refine Calls.mono (dot_g (U7.out.step st.out.1) (F7.out.step st.out.1) (by have := FL.out; omega) (by omega) (by omega) (by omega) (by omega)) ?_
                rintro e wx ⟨y3, rfl, hq, rq, bx⟩
                have tx := And.intro hq (rq.1.more (M := 10000) (by have := DL.out; have := FL.out; omega))
                clear hq rq
                try dsimp only
                have st2 := Sg.call (G := fun W => (y3.r = dt (tms f) (xf l) ∧ Rc W (rx y3) y3.r 10000)) st.out bx (Firm2.and (Firm2.and Firm2.yes (Firm2.rxq _ _ _)) (Firm2.rxq _ _ _)) tx
                have hSt := hide st2
                refine hK.out _ _ st2.1 (fun hHeld => ?_)
                clear hK K st2
                (try simp only [Act.put, List.setIfInBounds_toArray, List.set_cons_zero, List.set_cons_succ])
                exact Hs30.out _ _ ⟨y1, y2, y3, rfl, hSt.out⟩
              refine AllReadyH.cons rfl (fun K hK => ?_) ?_
              · go_simp
                have st2 := Sg.make st.out (Firm2.and (Firm2.and Firm2.yes (Firm2.rxq _ _ _)) (Firm2.rxq _ _ _)) 0 _ rfl (by simp)
                refine hK.out _ _ st2.1 (fun hHeld => ?_)
                (try simp only [Act.put, List.setIfInBounds_toArray, List.set_cons_zero, List.set_cons_succ])
                exact Hs21.out _ _ ⟨y1, y2, W.heap.size, rfl, st2⟩
              exact AllReadyH.nil
            refine wpAnyH_with 4 #[true, true, true, true, false, true, true, false, false, true, false] (fun a W => ∃ (y1 : Rx) (g0 : Nat), a = ⟨#[rx a0, .slice A1 n1 c1, .slice A2 n2 c2, .pointer (some ⟨w.heap.size, 0, none⟩), undef, undef, .bool false, .slice A9 n9 c9, .int .i64 ((8 : Nat) : Int), .pointer (some ⟨wa.heap.size, 0, none⟩), .pointer (some ⟨g0, 0, none⟩), .bool true, .bool false, .slice A1 n1 c1, .bool false, .bool false, .slice A2 n2 c2, .bool false, .bool false, .bool false, .agg #[.bool a0.s, sv a0.u, sv a0.t], .int .i64 (m : Int), .bool false, .bool false, .slice (some ⟨w4.heap.size, 0, none⟩) 0 0, .int .i64 ((8 : Nat) : Int), .bool false, u27, u28, u29, u30, u31, u32, u33, u34, u35, .agg #[.bool a0.s, sv a0.u, sv a0.t], .slice A1 n1 c1, .slice A2 n2 c2, .slice Ax n7 c7, .slice A9 n9 c9, rx xd, .agg #[.bool a0.s, sv a0.u, sv a0.t], .slice A1 n1 c1, .slice A9 n9 c9, rx y1, undef, .slice A2 n2 c2, .slice A9 n9 c9, undef, undef, undef, undef, undef, undef, undef, undef, undef, undef, undef, undef], []⟩ ∧ Sg wb.drew.heap.size wb.drew W [rblk] [some g0] (fun W => (True ∧ (y1.r = dt (tms d) (xf l) ∧ Rc W (rx y1) y1.r 10000)))) ?_ (fun Hs11 => ?_)
            · rintro a W ⟨y1, g0, rfl, st0⟩
              have hHeld := st0.1
              have st := hide st0
              clear st0
              refine wpAnyH_ready (rs := [4]) (by kernel_rfl) (by simp) ?_
              refine AllReadyH.cons rfl (fun K hK => ?_) ?_
              · go_simp
                go_at_call 23
                refine Calls.mono (mul_q (A7.out.step st.out.1) st.out.2.2.1.2 (by omega) (by omega) (by omega) (by omega)) ?_
                rintro e wx ⟨y2, rfl, hq, rq, bx⟩
                have tx := And.intro hq (rq.1.more (M := 11000) (by have := DL.out; have := FL.out; omega))
                clear hq rq
                try dsimp only
                have st2 := Sg.call (G := fun W => (y2.r = ra * (dt (tms d) (xf l)) ∧ Rc W (rx y2) y2.r 11000)) st.out bx (Firm2.and Firm2.yes (Firm2.rxq _ _ _)) tx
                have hSt := hide st2
                refine hK.out _ _ st2.1 (fun hHeld => ?_)
                clear hK K st2
                (try simp only [Act.put, List.setIfInBounds_toArray, List.set_cons_zero, List.set_cons_succ])
                exact Hs21.out _ _ ⟨y1, y2, g0, rfl, hSt.out⟩
              exact AllReadyH.nil
            refine wpAnyH_with 5 #[true, true, true, true, false, true, true, false, false, false, false] (fun a W => ∃ (y1 : Rx), a = ⟨#[rx a0, .slice A1 n1 c1, .slice A2 n2 c2, .pointer (some ⟨w.heap.size, 0, none⟩), undef, undef, .bool false, .slice A9 n9 c9, .int .i64 ((8 : Nat) : Int), .pointer (some ⟨wa.heap.size, 0, none⟩), undef, .bool true, .bool false, .slice A1 n1 c1, .bool false, .bool false, .slice A2 n2 c2, .bool false, .bool false, .bool false, .agg #[.bool a0.s, sv a0.u, sv a0.t], .int .i64 (m : Int), .bool false, .bool false, .slice (some ⟨w4.heap.size, 0, none⟩) 0 0, .int .i64 ((8 : Nat) : Int), .bool false, u27, u28, u29, u30, u31, u32, u33, u34, u35, .agg #[.bool a0.s, sv a0.u, sv a0.t], .slice A1 n1 c1, .slice A2 n2 c2, .slice Ax n7 c7, .slice A9 n9 c9, rx xd, .agg #[.bool a0.s, sv a0.u, sv a0.t], .slice A1 n1 c1, .slice A9 n9 c9, rx y1, undef, .slice A2 n2 c2, .slice A9 n9 c9, undef, undef, undef, undef, undef, undef, undef, undef, undef, undef, undef, undef], []⟩ ∧ Sg wb.drew.heap.size wb.drew W [rblk] [none] (fun W => (True ∧ (y1.r = dt (tms d) (xf l) ∧ Rc W (rx y1) y1.r 10000)))) ?_ (fun Hs10 => ?_)
            · rintro a W ⟨y1, rfl, st0⟩
              have hHeld := st0.1
              have st := hide st0
              clear st0
              refine wpAnyH_ready (rs := [4, 9]) (by kernel_rfl) (by simp) ?_
              refine AllReadyH.cons rfl (fun K hK => ?_) ?_
              · go_simp
                go_at_call 23
                refine Calls.mono (mul_q (A7.out.step st.out.1) st.out.2.2.1.2 (by omega) (by omega) (by omega) (by omega)) ?_
                rintro e wx ⟨y2, rfl, hq, rq, bx⟩
                have tx := And.intro hq (rq.1.more (M := 11000) (by have := DL.out; have := FL.out; omega))
                clear hq rq
                try dsimp only
                have st2 := Sg.call (G := fun W => (y2.r = ra * (dt (tms d) (xf l)) ∧ Rc W (rx y2) y2.r 11000)) st.out bx (Firm2.and Firm2.yes (Firm2.rxq _ _ _)) tx
                have hSt := hide st2
                refine hK.out _ _ st2.1 (fun hHeld => ?_)
                clear hK K st2
                (try simp only [Act.put, List.setIfInBounds_toArray, List.set_cons_zero, List.set_cons_succ])
                exact Hs20.out _ _ ⟨y1, y2, rfl, hSt.out⟩
              refine AllReadyH.cons rfl (fun K hK => ?_) ?_
              · go_simp
                have st2 := Sg.make st.out (Firm2.and Firm2.yes (Firm2.rxq _ _ _)) 0 _ rfl (by simp)
                refine hK.out _ _ st2.1 (fun hHeld => ?_)
                (try simp only [Act.put, List.setIfInBounds_toArray, List.set_cons_zero, List.set_cons_succ])
                exact Hs11.out _ _ ⟨y1, W.heap.size, rfl, st2⟩
              exact AllReadyH.nil
            refine wpAnyH_with 5 #[true, true, true, false, false, true, true, false, false, true, false] (fun a W => ∃ (g0 : Nat), a = ⟨#[rx a0, .slice A1 n1 c1, .slice A2 n2 c2, .pointer (some ⟨w.heap.size, 0, none⟩), undef, undef, .bool false, .slice A9 n9 c9, .int .i64 ((8 : Nat) : Int), .pointer (some ⟨wa.heap.size, 0, none⟩), .pointer (some ⟨g0, 0, none⟩), .bool true, .bool false, .slice A1 n1 c1, .bool false, .bool false, .slice A2 n2 c2, .bool false, .bool false, .bool false, .agg #[.bool a0.s, sv a0.u, sv a0.t], .int .i64 (m : Int), .bool false, .bool false, .slice (some ⟨w4.heap.size, 0, none⟩) 0 0, .int .i64 ((8 : Nat) : Int), .bool false, u27, u28, u29, u30, u31, u32, u33, u34, u35, .agg #[.bool a0.s, sv a0.u, sv a0.t], .slice A1 n1 c1, .slice A2 n2 c2, .slice Ax n7 c7, .slice A9 n9 c9, rx xd, .agg #[.bool a0.s, sv a0.u, sv a0.t], .slice A1 n1 c1, .slice A9 n9 c9, undef, undef, .slice A2 n2 c2, .slice A9 n9 c9, undef, undef, undef, undef, undef, undef, undef, undef, undef, undef, undef, undef], []⟩ ∧ Sg wb.drew.heap.size wb.drew W [rblk] [some g0] (fun W => True)) ?_ (fun Hs01 => ?_)
            · rintro a W ⟨g0, rfl, st0⟩
              have hHeld := st0.1
              have st := hide st0
              clear st0
              refine wpAnyH_ready (rs := [3]) (by kernel_rfl) (by simp) ?_
              refine AllReadyH.cons rfl (fun K hK => ?_) ?_
              · go_simp
                go_at_call 53
                refine Calls.mono (dot_g (V7.out.step st.out.1) (F7.out.step st.out.1) (by have := DL.out; omega) (by omega) (by omega) (by omega) (by omega)) ?_
                rintro e wx ⟨y1, rfl, hq, rq, bx⟩
                have tx := And.intro hq (rq.1.more (M := 10000) (by have := DL.out; have := FL.out; omega))
                clear hq rq
                try dsimp only
                have st2 := Sg.call (G := fun W => (y1.r = dt (tms d) (xf l) ∧ Rc W (rx y1) y1.r 10000)) st.out bx Firm2.yes tx
                have hSt := hide st2
                refine hK.out _ _ st2.1 (fun hHeld => ?_)
                clear hK K st2
                (try simp only [Act.put, List.setIfInBounds_toArray, List.set_cons_zero, List.set_cons_succ])
                exact Hs11.out _ _ ⟨y1, g0, rfl, hSt.out⟩
              exact AllReadyH.nil
            refine wpAnyH_take (i := 0) (v := ?_) rfl (by kernel_rfl) (by kernel_rfl) (by kernel_rfl) (fun _ _ _ h => h) (Or.inl ⟨?_, ?_⟩) (by assumption) ?_
            rotate_left
            · rfl
            · (intro w hSw; have e0 := cell_keep p0 hSw; have e1 := cell_keep p1 hSw; have e2 := cell_keep p2 hSw; go_simp; try with_reducible rfl)
            (try simp only [Act.put, List.setIfInBounds_toArray, List.set_cons_zero, List.set_cons_succ])
            refine wpAnyH_take (i := 1) (v := ?_) rfl (by kernel_rfl) (by kernel_rfl) (by kernel_rfl) (fun _ _ _ h => h) (Or.inl ⟨?_, ?_⟩) (by assumption) ?_
            rotate_left
            · rfl
            · (intro w hSw; go_simp; try with_reducible rfl)
            (try simp only [Act.put, List.setIfInBounds_toArray, List.set_cons_zero, List.set_cons_succ])
            refine wpAnyH_take (i := 2) (v := ?_) rfl (by kernel_rfl) (by kernel_rfl) (by kernel_rfl) (fun _ _ _ h => h) (Or.inl ⟨?_, ?_⟩) (by assumption) ?_
            rotate_left
            · rfl
            · (intro w hSw; go_simp; try with_reducible rfl)
            (try simp only [Act.put, List.setIfInBounds_toArray, List.set_cons_zero, List.set_cons_succ])
            refine wpAnyH_take (i := 5) (v := ?_) rfl (by kernel_rfl) (by kernel_rfl) (by kernel_rfl) (fun _ _ _ h => h) (Or.inl ⟨?_, ?_⟩) (by assumption) ?_
            rotate_left
            · rfl
            · (intro w hSw; go_simp; try with_reducible rfl)
            (try simp only [Act.put, List.setIfInBounds_toArray, List.set_cons_zero, List.set_cons_succ])
            refine wpAnyH_take (i := 6) (v := ?_) rfl (by kernel_rfl) (by kernel_rfl) (by kernel_rfl) (fun _ _ _ h => h) (Or.inl ⟨?_, ?_⟩) (by assumption) ?_
            rotate_left
            · rfl
            · (intro w hSw; go_simp; try with_reducible rfl)
            (try simp only [Act.put, List.setIfInBounds_toArray, List.set_cons_zero, List.set_cons_succ])
            refine wpAnyH_with 6 #[true, true, true, false, false, true, true, false, false, false, false] (fun a W => a = ⟨#[rx a0, .slice A1 n1 c1, .slice A2 n2 c2, .pointer (some ⟨w.heap.size, 0, none⟩), undef, undef, .bool false, .slice A9 n9 c9, .int .i64 ((8 : Nat) : Int), .pointer (some ⟨wa.heap.size, 0, none⟩), undef, .bool true, .bool false, .slice A1 n1 c1, .bool false, .bool false, .slice A2 n2 c2, .bool false, .bool false, .bool false, .agg #[.bool a0.s, sv a0.u, sv a0.t], .int .i64 (m : Int), .bool false, .bool false, .slice (some ⟨w4.heap.size, 0, none⟩) 0 0, .int .i64 ((8 : Nat) : Int), .bool false, u27, u28, u29, u30, u31, u32, u33, u34, u35, .agg #[.bool a0.s, sv a0.u, sv a0.t], .slice A1 n1 c1, .slice A2 n2 c2, .slice Ax n7 c7, .slice A9 n9 c9, rx xd, .agg #[.bool a0.s, sv a0.u, sv a0.t], .slice A1 n1 c1, .slice A9 n9 c9, undef, undef, .slice A2 n2 c2, .slice A9 n9 c9, undef, undef, undef, undef, undef, undef, undef, undef, undef, undef, undef, undef], []⟩ ∧ Sg wb.drew.heap.size wb.drew W [rblk] [none] (fun W => True)) ?_ (fun Hs => Hs.out _ _ ⟨rfl, Sg.start _ _ 1⟩)
            rintro a W ⟨rfl, st0⟩
            have hHeld := st0.1
            have st := hide st0
            clear st0
            refine wpAnyH_ready (rs := [3, 9]) (by kernel_rfl) (by simp) ?_
            refine AllReadyH.cons rfl (fun K hK => ?_) ?_
            · go_simp
              go_at_call 53
              refine Calls.mono (dot_g (V7.out.step st.out.1) (F7.out.step st.out.1) (by have := DL.out; omega) (by omega) (by omega) (by omega) (by omega)) ?_
              rintro e wx ⟨y1, rfl, hq, rq, bx⟩
              have tx := And.intro hq (rq.1.more (M := 10000) (by have := DL.out; have := FL.out; omega))
              clear hq rq
              try dsimp only
              have st2 := Sg.call (G := fun W => (y1.r = dt (tms d) (xf l) ∧ Rc W (rx y1) y1.r 10000)) st.out bx Firm2.yes tx
              have hSt := hide st2
              refine hK.out _ _ st2.1 (fun hHeld => ?_)
              clear hK K st2
              (try simp only [Act.put, List.setIfInBounds_toArray, List.set_cons_zero, List.set_cons_succ])
              exact Hs10.out _ _ ⟨y1, rfl, hSt.out⟩
            refine AllReadyH.cons rfl (fun K hK => ?_) ?_
            · go_simp
              have st2 := Sg.make st.out Firm2.yes 0 _ rfl (by simp)
              refine hK.out _ _ st2.1 (fun hHeld => ?_)
              (try simp only [Act.put, List.setIfInBounds_toArray, List.set_cons_zero, List.set_cons_succ])
              exact Hs01.out _ _ ⟨W.heap.size, rfl, st2⟩
            exact AllReadyH.nil
theorem vlinear_go (w : World) (a0 : Rx) (ra : Rat) (v : Value) (d : List Tx) (u : Value) (f : List Tx) (ha : Ra w (rx a0) ra 17592186043904) (hv : Tv w v d 17592186043904) (hu : Tv w u f 17592186043904) :
    Calls Tryz.prog 8 #[rx a0, v, u] w fun e w' => e = .returned (.bool true) ∧ Below w.heap.size w w' := vlinear_true w a0 ra v u d f ha hv hu
end Go.Proofs.YtajjpepjbflojaaGreat
