/-
  The walk of ConsWhole: true.
-/
import Derived.Test.YtbkionleakgmmaaGreatBundleN
import Derived.ChangeSlices
import Derived.Test.YtbkionleakgmmaaGreatBundleP


namespace Go.Proofs.YtbkionleakgmmaaGreat
open Go.ChangeShapes Go.WideShapes Go.ChangeAt Go.RowKit Go.Joins Go.Deep Go.Proofs.YtbkionleakgmmaaGreat.Num
set_option linter.unusedVariables false
set_option linter.unusedSimpArgs false
set_option maxRecDepth 100000

/-- Whole numbers of the machine, as they are read. -/
def el1 (z : Int) : List Value := [.int .i64 z]
theorem el1_len (z : Int) : (el1 z).length = 1 := rfl
def Iv (W : World) (v : Value) (ys : List Int) : Prop := Lr el1 1 W v ys ∧ ∀ z ∈ ys, -9223372036854775808 ≤ z ∧ z ≤ 9223372036854775807
theorem Iv.step {W W' : World} {v : Value} {ys : List Int} (h : Iv W v ys) (hb : Below W.heap.size W W') : Iv W' v ys := ⟨h.1.step hb, h.2⟩
theorem open_int64s {H : Type} {enc : TypeId × Value → H} {W : World} {r : Reach} {b0 : Nat} {v : Value} {d : DataW H} {ps : List MemPlace}
    (hv : Value.okWide Tryz.prog W r b0 95 v) (h : DataW.Trod enc Tryz.prog W 0 (fun _ => true) true 95 v d ps) : ∃ xs : List Int, Iv W v xs := by
  obtain ⟨A, n, c, rfl⟩ := okWide_slice Tryz.underlying95 hv
  obtain ⟨fuel, hf⟩ := h
  have hf' : DataW.trod enc Tryz.prog W 0 (fun _ => true) true fuel 95 [.slice A n c] = some (d, ps) := by simpa [Value.cells] using hf
  rcases open_ints Tryz.underlying95 Tryz.underlying2 (by kernel_rfl) hf' with ⟨e, _⟩ | ⟨ad, len, cap, zs, e, hb, hl, hm, hz, hx, hcell, hwf⟩
  · simp at e
    obtain ⟨rfl, rfl, rfl⟩ := e
    exact ⟨[], Lr.nil _ _ _, fun z hz => by cases hz⟩
  · simp at e
    obtain ⟨rfl, rfl, rfl⟩ := e
    have hzn : zs.length = c := by simpa using hz
    have hlen : (zs.take n).length = n := by rw [List.length_take]; omega
    refine ⟨zs.take n, ⟨some ad, c, by rw [hlen], by rw [hlen]; exact hl, hm, fun hn => ?_⟩, fun z hz' => ?_⟩
    · rw [hlen] at hn
      have hc0 := hcell 0 (by omega)
      obtain ⟨b, off, spot⟩ := ad
      have hs : spot = none := by simpa [Addr.add] using World.cell?_spot hc0
      subst hs
      refine ⟨b, off, rfl, ?_, fun j x hj i u hi => ?_⟩
      · unfold World.cell? at hc0
        split at hc0
        · rename_i hb2
          exact (Array.getElem?_eq_some_iff.1 hb2).1
        · cases hc0
      · have hjn : j < n := by have := (List.getElem?_eq_some_iff.1 hj).1; omega
        have hi0 : i = 0 := by have := (List.getElem?_eq_some_iff.1 hi).1; rw [el1_len] at this; omega
        subst hi0
        have hu : Value.int .i64 x = u := by simpa [el1] using hi
        have hc1 := hcell j (by omega)
        have hg : zs.getD j 0 = x := by
          rw [List.getElem?_take_of_lt hjn] at hj
          rw [List.getD_eq_getElem?_getD, hj]
          rfl
        rw [hg, hu] at hc1
        rw [← hc1, Nat.mul_one, Nat.add_zero]
        congr 1
        unfold Addr.add
        by_cases h0 : j = 0
        · simp [h0]
        · simp [h0]
    · have := hwf z (List.mem_of_mem_take hz')
      simp [Lit.wf, IntKind.min, IntKind.max, IntKind.signed, IntKind.bits] at this
      omega
theorem ow_tt {α β : Type} {enc : α → List Value} {enc' : β → List Value} {k k' B B' : Nat} {T T' : TypeId} {W : World} {v v' : Value} {d : List α} {d' : List β} (h1 : Ow T enc k W B v d) (h2 : Ow T' enc' k' W B' v' d') (hne : T ≠ T') : v.ownBlock = none ∨ v.ownBlock ≠ v'.ownBlock := by
  rcases h1.form with ⟨rfl, _⟩ | ⟨g, cap, cur, rfl, _, _, hh, _⟩
  · exact .inl rfl
  · rcases h2.form with ⟨rfl, _⟩ | ⟨g', cap', cur', rfl, _, _, hh', _⟩
    · exact .inr (by simp [Value.ownBlock])
    · refine .inr (fun e => ?_)
      have e : g = g' := by simpa [Value.ownBlock] using e
      subst e
      rw [hh] at hh'
      injection hh' with hh'
      injection hh' with _ e2 _
      exact hne e2
theorem ow_ott {α : Type} {enc : α → List Value} {k B : Nat} {T : TypeId} {W : World} {v : Value} {d : List α} (h : Ow T enc k W B v d) (hne : T ≠ 165) : ∀ g, v.ownBlock = some g → Ot W g := by
  intro g hg
  rcases h.form with ⟨rfl, _⟩ | ⟨g', cap, cur, rfl, _, _, hh, _⟩
  · cases hg
  · have e : g' = g := by simpa [Value.ownBlock] using hg
    subst e
    exact ⟨cur, _, _, hh, hne⟩
def Fk (W : World) (B : Nat) (v : Value) (l : List Rx) (K : Nat) : Prop := Ow 42 er 3 W B v l ∧ ∀ x ∈ l, Rg W B x K
theorem Fk.step {W W' : World} {B : Nat} {v : Value} {l : List Rx} {K : Nat} (h : Fk W B v l K) (hb : Below W.heap.size W W') : Fk W' B v l K := ⟨h.1.step hb, fun x hx => (h.2 x hx).step hb⟩
theorem Fk.fv {W : World} {B : Nat} {v : Value} {l : List Rx} {K : Nat} (h : Fk W B v l K) : Fv W v l K := ⟨h.1.rl er_len, fun x hx => (h.2 x hx).ra⟩
theorem Fk.push {W W' : World} {B K : Nat} {v v' : Value} {os : List Rx} {y : Rx} (T : Fk W B v os K) (ho : Ow 42 er 3 W' B v' (os ++ [y])) (hg : W.grownBy W' v.ownBlock) (ry : Rg W B y K) : Fk W' B v' (os ++ [y]) K := by
  refine ⟨ho, fun x hx => ?_⟩
  rcases List.mem_append.1 hx with h | h
  · exact (T.2 x h).grownT hg (fun g e => ow_ott T.1 (by decide) g e)
  · simp at h
    subst h
    exact ry.grownT hg (fun g e => ow_ott T.1 (by decide) g e)
theorem Fk.kept {W W' : World} {B B' K : Nat} {v v' : Value} {os : List Rx} {bs : List Bool} (T : Fk W B v os K) (hb : Ow 4 eb1 1 W B' v' bs) (hg : W.grownBy W' v'.ownBlock) : Fk W' B v os K :=
  ⟨T.1.kept hg (ow_tt T.1 hb (by decide)), fun x hx => (T.2 x hx).grownT hg (fun g e => ow_ott hb (by decide) g e)⟩
theorem info_bl : (Tryz.prog.info? 4).map (fun i => (i.zero, i.size, i.bytes)) = some (some (.bool false), 1, 1) := by kernel_rfl
theorem bat_true {n : Nat} {c : Int} : bAt (List.replicate n true) c ↔ 0 ≤ c ∧ c < (n : Int) := by
  unfold bAt
  constructor
  · rintro ⟨h0, h1⟩
    have := (List.getElem?_eq_some_iff.1 h1).1
    rw [List.length_replicate] at this
    omega
  · rintro ⟨h0, h1⟩
    exact ⟨h0, by rw [List.getElem?_replicate, if_pos (by omega)]⟩

set_option maxHeartbeats 16000000 in
theorem whole_go (w : World) (a b : Kx) (v : Value) (ys : List Int) (ha : Kv w a 17592186043904) (hb : Kv w b 17592186043904) (hv : Iv w v ys) :
    Calls Tryz.prog 11 #[kx a, kx b, v] w fun e w' => e = .returned (.bool true) ∧ Below w.heap.size w w' := by
  obtain ⟨i1, hi1, hz10, hz11, hz12⟩ := info_parts info_rt
  obtain ⟨i2, hi2, hz20, hz21, hz22⟩ := info_parts info_bl
  obtain ⟨A, c, e1, hc1, hc2, hc3⟩ := id hv.1
  obtain ⟨n, hlen⟩ : ∃ n, n = ys.length := ⟨_, rfl⟩
  rw [← hlen] at e1 hc1
  subst e1
  have b2 : Below w.heap.size w ((w.alloc (kbox a)).alloc (kbox b)) := ((Below.refl _ _).alloc (Nat.le_refl _) _).alloc (by simp) _
  have PA := hide (show Kq ((w.alloc (kbox a)).alloc (kbox b)) w.heap.size a from (Kq.new w a).step (alloc_below _ _))
  have PB := hide (show Kq ((w.alloc (kbox a)).alloc (kbox b)) (w.heap.size + 1) b by
    have h := Kq.new (w.alloc (kbox a)) b
    simpa using h)
  have HA := hide (ha.step b2)
  have HB := hide (hb.step b2)
  have HV := hide (hv.step b2)
  have HN := hide hlen
  have B := hide b2
  unfold maxLen at hc2
  clear ha hb hv hc3 hlen b2
  go_enter Tryz.func11, Tryz.ntmps11
  go_wp2_with fail
  generalize ((w.alloc (kbox a)).alloc (kbox b)) = w0 at *
  refine (kspeaks_true _).mono ?_
  rintro e wx ⟨rfl, bx⟩
  replace PA := hide (PA.out.step bx)
  replace PB := hide (PB.out.step bx)
  replace HA := hide (HA.out.step bx)
  replace HB := hide (HB.out.step bx)
  replace HV := hide (HV.out.step bx)
  replace B := hide (Below.step B.out B.out.size bx)
  clear bx
  obtain ⟨p0, p1, p2, p3, p4⟩ := PA.out.all
  obtain ⟨q0, q1, q2, q3, q4⟩ := PB.out.all
  have al := alloc_below wx (.cells #[.int .i64 a.s, sv a.v, .bool a.x.s, sv a.x.u, sv a.x.t, .int .i64 b.s, sv b.v, .bool b.x.s, sv b.x.u, sv b.x.t] 66)
  have KL := hide (lrk2 (g := wx.heap.size) HA.out HB.out rfl)
  have bx := al
  replace PA := hide (PA.out.step bx)
  replace PB := hide (PB.out.step bx)
  replace HA := hide (HA.out.step bx)
  replace HB := hide (HB.out.step bx)
  replace HV := hide (HV.out.step bx)
  replace B := hide (Below.step B.out B.out.size bx)
  clear al bx
  go_wp2_with fail
  clear p0 p1 p2 p3 p4 q0 q1 q2 q3 q4
  generalize (wx.alloc (.cells #[.int .i64 a.s, sv a.v, .bool a.x.s, sv a.x.u, sv a.x.t, .int .i64 b.s, sv b.v, .bool b.x.s, sv b.x.u, sv b.x.t] 66)) = w2 at *
  generalize wx.heap.size = gl at *
  refine (kgreat_c KL.out (by omega)).mono ?_
  rintro e w3 ⟨bx, o, rfl, ho⟩
  have HO := hide ho
  replace PA := hide (PA.out.step bx)
  replace PB := hide (PB.out.step bx)
  replace HA := hide (HA.out.step bx)
  replace HB := hide (HB.out.step bx)
  replace HV := hide (HV.out.step bx)
  replace B := hide (Below.step B.out B.out.size bx)
  clear ho bx KL
  cases o
  case true =>
    go_wp2_with fail
    go_ret
    exact ⟨rfl, B.out⟩
  have OA := hide ((HO.out rfl).2 a (by simp))
  have OB := hide ((HO.out rfl).2 b (by simp))
  replace HA := hide (HA.out.tight OA.out)
  replace HB := hide (HB.out.tight OB.out)
  clear HO
  by_cases h30 : 30 < n
  · have t1 : decide ((30 : Int) < (n : Int)) = true := decide_eq_true (by omega)
    go_wp2_with fail
    go_ret
    exact ⟨rfl, B.out⟩
  have t1 : decide ((30 : Int) < (n : Int)) = false := decide_eq_false (by omega)
  go_wp2_with fail
  have N30 : n ≤ 30 := by omega
  have C := hide (show Below w3.heap.size w3 ((w3.alloc (.cells #[] 42)).alloc (.cells #[] 4)) from ((Below.refl _ _).alloc (Nat.le_refl _) _).alloc (by simp) _)
  have FX := hide (show Fk ((w3.alloc (.cells #[] 42)).alloc (.cells #[] 4)) w3.heap.size (.slice (some ⟨w3.heap.size, 0, none⟩) 0 0) [] 6 from ⟨(Ow.lit er_len w3 42 [] #[] rfl (Nat.le_refl _) (by simp [maxLen])).step (alloc_below _ _), fun x hx => by cases hx⟩)
  have FB := hide (show Ow 4 eb1 1 ((w3.alloc (.cells #[] 42)).alloc (.cells #[] 4)) w3.heap.size (.slice (some ⟨w3.heap.size + 1, 0, none⟩) 0 0) (List.replicate 0 true) by
    have h := Ow.lit (B := w3.heap.size) eb1_len (w3.alloc (.cells #[] 42)) 4 [] #[] rfl (by simp) (by simp [maxLen])
    simpa using h)
  clear t1 h30
  go_loopw [7, 8, 28] (fun xv bv iv wr => ∃ (k : Nat) (xs : List Rx), k ≤ n ∧ iv = .int .i64 (k : Int) ∧ Hid (Below w3.heap.size w3 wr) ∧ Hid (Fk wr w3.heap.size xv xs 6) ∧ Hid (Ow 4 eb1 1 wr w3.heap.size bv (List.replicate k true)) ∧ Hid (xs.length = k) ∧ Hid (∀ (j : Nat) x, xs[j]? = some x → Isw x.r)) (fun _ _ iv _ => n - (intOf iv).toNat)
  case atStart => exact ⟨0, [], Nat.zero_le _, rfl, C, FX, FB, hide rfl, hide (fun j x h => by simp at h)⟩
  case round =>
    obtain ⟨k, xs, hk, rfl, C, FX, FB, XL, XI⟩ := hrel
    obtain ⟨XA, xn, xc, rfl⟩ := rv_sl FX.out.fv.1
    obtain ⟨BA, bn, bc, rfl⟩ := rv_sl (FB.out.rl eb1_len)
    by_cases hlt : k < n
    · obtain ⟨z, hz⟩ := len_of (d := ys) (k := k) (by rw [← HN.out]; exact hlt)
      obtain ⟨z1, z2⟩ := HV.out.2 z (List.mem_of_getElem? hz)
      obtain ⟨b', off, rfl, hb, hc⟩ := (HV.out.1.step C.out).get hz
      have c0 := hc 0 _ rfl
      rw [Nat.mul_one, Nat.add_zero] at c0
      have l0 : (0 : Int) ≤ (k : Int) := by omega
      have l1 : (k : Int) < (n : Int) := by omega
      clear hc hb hz
      go_wp2_with fail
      refine (whole11_g _ z z1 z2).mono ?_
      rintro e w5 ⟨x, rfl, hx, rx1, bx⟩
      have X := hide (show Isw x.r by rw [hx]; exact isw_int z)
      have RX := hide (rx1.mono (B' := w3.heap.size) C.out.size)
      replace FX := hide (FX.out.step bx)
      replace FB := hide (FB.out.step bx)
      replace C := hide (Below.step C.out C.out.size bx)
      have HLX := hide (show xs.length + 1 ≤ 1000000000000 by have := XL.out; omega)
      have HLB := hide (show (List.replicate k true).length + 1 ≤ 1000000000000 by rw [List.length_replicate]; omega)
      clear hx rx1 bx c0 z1 z2
      go_wp2_with (at_builtin; first
        | (refine wpList_pushE rfl (.tmp 32) (.tmp 35) 23 rfl Tryz.underlying23 hi1 hz10 hz11 hz12 rfl (by omega) er_len er_one w5 w3.heap.size _ xs x _ rfl FX.out.1 rfl rfl HLX.out (by decide) C.out.size ?_; intro v' w' ho hg; have FX2 := hide (FX.out.push ho hg.1 RX.out); have FB2 := hide (FB.out.kept hg.1 (ow_tt FB.out FX.out.1 (by decide))); have C2 := hide (below_own C.out FX.out.1 hg.1 C.out.size); clear ho hg)
        | (refine wpList_pushE rfl (.tmp 37) (.tmp 38) 58 rfl Tryz.underlying58 hi2 hz20 hz21 hz22 rfl (by omega) eb1_len eb1_one w' w3.heap.size _ (List.replicate k true) true _ rfl FB2.out rfl rfl HLB.out (by decide) C2.out.size ?_; intro v2 w2' ho2 hg2; have FX3 := hide (FX2.out.kept FB2.out hg2.1); have FB3 := hide (show Ow 4 eb1 1 w2' w3.heap.size v2 (List.replicate (k + 1) true) by rw [List.replicate_succ']; exact ho2); have C3 := hide (below_own C2.out FB2.out hg2.1 C2.out.size); clear ho2 hg2))
      have XL3 := hide (show (xs ++ [x]).length = k + 1 by rw [List.length_append, XL.out]; rfl)
      have XI3 := hide (show ∀ (j : Nat) q, (xs ++ [x])[j]? = some q → Isw q.r from fun j q hq => by
        rcases List.mem_append.1 (List.mem_of_getElem? hq) with h | h
        · obtain ⟨i, hi, e⟩ := List.getElem_of_mem h
          exact XI.out i q (by rw [List.getElem?_eq_getElem hi, e])
        · simp at h
          subst h
          exact X.out)
      exact ⟨⟨k + 1, xs ++ [x], by omega, by go_num, C3, FX3, FB3, XL3, XI3⟩, by simp [intOf]; omega⟩
    · obtain rfl : k = n := by omega
      have XO := hide (show ∀ c, c < 0 ∨ (xs.length : Int) ≤ c → xf xs c = 0 from fun c hc => xf_out xs c hc)
      have XI2 := hide (show ∀ c, 0 ≤ c → c < (xs.length : Int) → Isw (xf xs c) from fun c h0 h1 => by
        obtain ⟨j, rfl⟩ : ∃ j : Nat, c = (j : Int) := ⟨c.toNat, by omega⟩
        obtain ⟨q, hq⟩ := len_of (d := xs) (k := j) (by omega)
        rw [xf_in hq]
        exact XI.out j q hq)
      clear XI
      have XI := XI2
      clear XI2
      replace PA := hide (PA.out.step C.out)
      replace PB := hide (PB.out.step C.out)
      replace HA := hide (HA.out.step C.out)
      replace HB := hide (HB.out.step C.out)
      obtain ⟨p0, p1, p2, p3, p4⟩ := PA.out.all
      obtain ⟨q0, q1, q2, q3, q4⟩ := PB.out.all
      go_wp2_with fail
      refine (ksplit_c (L := 6) (M := 6) HA.out HB.out (FB.out.rl eb1_len) (by have := OA.out.1; omega) (by have := OB.out.1; omega) (by omega) (by omega) (by omega) (by omega)).mono ?_
      rintro e wx ⟨⟨o, rfl, ho⟩, bx⟩
      have S0 := hide ho
      replace PA := hide (PA.out.step bx)
      replace PB := hide (PB.out.step bx)
      replace HA := hide (HA.out.step bx)
      replace HB := hide (HB.out.step bx)
      replace FX := hide (FX.out.step bx)
      replace FB := hide (FB.out.step bx)
      replace C := hide (Below.step C.out C.out.size bx)
      clear ho bx
      clear p0 p1 p2 p3 p4 q0 q1 q2 q3 q4
      generalize wx = wq at *
      obtain ⟨p0, p1, p2, p3, p4⟩ := PA.out.all
      obtain ⟨q0, q1, q2, q3, q4⟩ := PB.out.all
      cases o
      case false =>
        go_wp2_with fail
        refine (kholds_c (L := 6) (K := 6) HA.out FX.out.fv (by have := OA.out.1; omega) (by omega) (by omega) (by omega) (by omega)).mono ?_
        rintro e wx ⟨⟨o, rfl, ho⟩, bx⟩
        have D0 := hide ho
        replace PA := hide (PA.out.step bx)
        replace PB := hide (PB.out.step bx)
        replace HA := hide (HA.out.step bx)
        replace HB := hide (HB.out.step bx)
        replace FX := hide (FX.out.step bx)
        replace FB := hide (FB.out.step bx)
        replace C := hide (Below.step C.out C.out.size bx)
        clear ho bx
        clear p0 p1 p2 p3 p4 q0 q1 q2 q3 q4
        generalize wx = wq at *
        obtain ⟨p0, p1, p2, p3, p4⟩ := PA.out.all
        obtain ⟨q0, q1, q2, q3, q4⟩ := PB.out.all
        cases o
        case false =>
          go_wp2_with fail
          go_ret
          exact ⟨rfl, Below.step B.out B.out.size C.out⟩

        have KA := hide (D0.out.1 (by simp))
        clear D0
        go_wp2_with fail
        refine (kround_g (L := 6) HA.out (FB.out.rl eb1_len) (by have := OA.out.1; omega) (by omega) (by omega)).mono ?_
        rintro e wy ⟨(⟨rfl, h⟩ | ⟨rfl, h, h2⟩ | ⟨r, rfl, h, hw, kg, rn, rl⟩), by1⟩
        · clear h
          replace C := C
          have bx := Below.step by1 by1.size (alloc_below wy kblk)
          replace PA := hide (PA.out.step bx)
          replace PB := hide (PB.out.step bx)
          replace HA := hide (HA.out.step bx)
          replace HB := hide (HB.out.step bx)
          replace FX := hide (FX.out.step bx)
          replace FB := hide (FB.out.step bx)
          replace C := hide (Below.step C.out C.out.size bx)
          clear bx by1
          clear p0 p1 p2 p3 p4 q0 q1 q2 q3 q4
          obtain ⟨p0, p1, p2, p3, p4⟩ := PA.out.all
          obtain ⟨q0, q1, q2, q3, q4⟩ := PB.out.all
          go_wp2_with fail
          refine (kdom_c (L := 6) (M := 6) HA.out HB.out (by have := OA.out.1; omega) (by have := OB.out.1; omega) (by omega) (by omega) (by omega) (by omega)).mono ?_
          rintro e wx ⟨⟨o, rfl, ho⟩, bx⟩
          have D1 := hide ho
          replace PA := hide (PA.out.step bx)
          replace PB := hide (PB.out.step bx)
          replace HA := hide (HA.out.step bx)
          replace HB := hide (HB.out.step bx)
          replace FX := hide (FX.out.step bx)
          replace FB := hide (FB.out.step bx)
          replace C := hide (Below.step C.out C.out.size bx)
          clear ho bx
          clear p0 p1 p2 p3 p4 q0 q1 q2 q3 q4
          generalize wx = wq at *
          obtain ⟨p0, p1, p2, p3, p4⟩ := PA.out.all
          obtain ⟨q0, q1, q2, q3, q4⟩ := PB.out.all
          cases o
          case false =>
            go_wp2_with fail
            go_ret
            exact ⟨rfl, Below.step B.out B.out.size C.out⟩

          go_wp2_with fail
          refine (kholds_c (L := 6) (K := 6) HB.out FX.out.fv (by have := OB.out.1; omega) (by omega) (by omega) (by omega) (by omega)).mono ?_
          rintro e wx ⟨⟨o, rfl, ho⟩, bx⟩
          obtain rfl : o = true := ho.2 (domi_keeps XO.out KA.out (D1.out.1 (by simp)))
          replace PA := hide (PA.out.step bx)
          replace PB := hide (PB.out.step bx)
          replace HA := hide (HA.out.step bx)
          replace HB := hide (HB.out.step bx)
          replace FX := hide (FX.out.step bx)
          replace FB := hide (FB.out.step bx)
          replace C := hide (Below.step C.out C.out.size bx)
          clear ho bx
          clear p0 p1 p2 p3 p4 q0 q1 q2 q3 q4
          generalize wx = wq at *
          obtain ⟨p0, p1, p2, p3, p4⟩ := PA.out.all
          obtain ⟨q0, q1, q2, q3, q4⟩ := PB.out.all
          go_wp2_with fail
          go_ret
          exact ⟨rfl, Below.step B.out B.out.size C.out⟩

        · clear h h2
          replace C := C
          have bx := Below.step by1 by1.size (alloc_below wy kblk)
          replace PA := hide (PA.out.step bx)
          replace PB := hide (PB.out.step bx)
          replace HA := hide (HA.out.step bx)
          replace HB := hide (HB.out.step bx)
          replace FX := hide (FX.out.step bx)
          replace FB := hide (FB.out.step bx)
          replace C := hide (Below.step C.out C.out.size bx)
          clear bx by1
          clear p0 p1 p2 p3 p4 q0 q1 q2 q3 q4
          obtain ⟨p0, p1, p2, p3, p4⟩ := PA.out.all
          obtain ⟨q0, q1, q2, q3, q4⟩ := PB.out.all
          go_wp2_with fail
          refine (kdom_c (L := 6) (M := 6) HA.out HB.out (by have := OA.out.1; omega) (by have := OB.out.1; omega) (by omega) (by omega) (by omega) (by omega)).mono ?_
          rintro e wx ⟨⟨o, rfl, ho⟩, bx⟩
          have D1 := hide ho
          replace PA := hide (PA.out.step bx)
          replace PB := hide (PB.out.step bx)
          replace HA := hide (HA.out.step bx)
          replace HB := hide (HB.out.step bx)
          replace FX := hide (FX.out.step bx)
          replace FB := hide (FB.out.step bx)
          replace C := hide (Below.step C.out C.out.size bx)
          clear ho bx
          clear p0 p1 p2 p3 p4 q0 q1 q2 q3 q4
          generalize wx = wq at *
          obtain ⟨p0, p1, p2, p3, p4⟩ := PA.out.all
          obtain ⟨q0, q1, q2, q3, q4⟩ := PB.out.all
          cases o
          case false =>
            go_wp2_with fail
            go_ret
            exact ⟨rfl, Below.step B.out B.out.size C.out⟩

          go_wp2_with fail
          refine (kholds_c (L := 6) (K := 6) HB.out FX.out.fv (by have := OB.out.1; omega) (by omega) (by omega) (by omega) (by omega)).mono ?_
          rintro e wx ⟨⟨o, rfl, ho⟩, bx⟩
          obtain rfl : o = true := ho.2 (domi_keeps XO.out KA.out (D1.out.1 (by simp)))
          replace PA := hide (PA.out.step bx)
          replace PB := hide (PB.out.step bx)
          replace HA := hide (HA.out.step bx)
          replace HB := hide (HB.out.step bx)
          replace FX := hide (FX.out.step bx)
          replace FB := hide (FB.out.step bx)
          replace C := hide (Below.step C.out C.out.size bx)
          clear ho bx
          clear p0 p1 p2 p3 p4 q0 q1 q2 q3 q4
          generalize wx = wq at *
          obtain ⟨p0, p1, p2, p3, p4⟩ := PA.out.all
          obtain ⟨q0, q1, q2, q3, q4⟩ := PB.out.all
          go_wp2_with fail
          go_ret
          exact ⟨rfl, Below.step B.out B.out.size C.out⟩

        · have RN := hide (rnd_keeps XO.out XI.out KA.out hw rn)
          have RL := hide rl
          have al := alloc_below wy (kbox r)
          have KR := hide (kg.kc.kv.step al)
          have PR := hide (Kq.new wy r)
          have bx := Below.step by1 by1.size al
          replace PA := hide (PA.out.step bx)
          replace PB := hide (PB.out.step bx)
          replace HA := hide (HA.out.step bx)
          replace HB := hide (HB.out.step bx)
          replace FX := hide (FX.out.step bx)
          replace FB := hide (FB.out.step bx)
          replace C := hide (Below.step C.out C.out.size bx)

          clear bx by1 al h hw kg rn rl
          clear p0 p1 p2 p3 p4 q0 q1 q2 q3 q4

          obtain ⟨p0, p1, p2, p3, p4⟩ := PA.out.all
          obtain ⟨q0, q1, q2, q3, q4⟩ := PB.out.all

          obtain ⟨r0, r1, r2, r3, r4⟩ := PR.out.all
          go_wp2_with fail
          refine (kholds_c (K := 6) KR.out FX.out.fv (by have := OA.out.1; have := RL.out; omega) (by omega) (by have := OA.out.1; omega) (by omega) (by omega)).mono ?_
          rintro e wx ⟨⟨o, rfl, ho⟩, bx⟩
          obtain rfl : o = true := ho.2 RN.out
          replace PA := hide (PA.out.step bx)
          replace PB := hide (PB.out.step bx)
          replace HA := hide (HA.out.step bx)
          replace HB := hide (HB.out.step bx)
          replace FX := hide (FX.out.step bx)
          replace FB := hide (FB.out.step bx)
          replace C := hide (Below.step C.out C.out.size bx)

          clear ho bx r0 r1 r2 r3 r4
          clear p0 p1 p2 p3 p4 q0 q1 q2 q3 q4

          generalize wx = wq2 at *
          obtain ⟨p0, p1, p2, p3, p4⟩ := PA.out.all
          obtain ⟨q0, q1, q2, q3, q4⟩ := PB.out.all

          go_wp2_with fail
          refine (kdom_c (L := 6) (M := 6) HA.out HB.out (by have := OA.out.1; omega) (by have := OB.out.1; omega) (by omega) (by omega) (by omega) (by omega)).mono ?_
          rintro e wx ⟨⟨o, rfl, ho⟩, bx⟩
          have D1 := hide ho
          replace PA := hide (PA.out.step bx)
          replace PB := hide (PB.out.step bx)
          replace HA := hide (HA.out.step bx)
          replace HB := hide (HB.out.step bx)
          replace FX := hide (FX.out.step bx)
          replace FB := hide (FB.out.step bx)
          replace C := hide (Below.step C.out C.out.size bx)
          clear ho bx
          clear p0 p1 p2 p3 p4 q0 q1 q2 q3 q4
          generalize wx = wq at *
          obtain ⟨p0, p1, p2, p3, p4⟩ := PA.out.all
          obtain ⟨q0, q1, q2, q3, q4⟩ := PB.out.all
          cases o
          case false =>
            go_wp2_with fail
            go_ret
            exact ⟨rfl, Below.step B.out B.out.size C.out⟩

          go_wp2_with fail
          refine (kholds_c (L := 6) (K := 6) HB.out FX.out.fv (by have := OB.out.1; omega) (by omega) (by omega) (by omega) (by omega)).mono ?_
          rintro e wx ⟨⟨o, rfl, ho⟩, bx⟩
          obtain rfl : o = true := ho.2 (domi_keeps XO.out KA.out (D1.out.1 (by simp)))
          replace PA := hide (PA.out.step bx)
          replace PB := hide (PB.out.step bx)
          replace HA := hide (HA.out.step bx)
          replace HB := hide (HB.out.step bx)
          replace FX := hide (FX.out.step bx)
          replace FB := hide (FB.out.step bx)
          replace C := hide (Below.step C.out C.out.size bx)
          clear ho bx
          clear p0 p1 p2 p3 p4 q0 q1 q2 q3 q4
          generalize wx = wq at *
          obtain ⟨p0, p1, p2, p3, p4⟩ := PA.out.all
          obtain ⟨q0, q1, q2, q3, q4⟩ := PB.out.all
          go_wp2_with fail
          go_ret
          exact ⟨rfl, Below.step B.out B.out.size C.out⟩
      have SK := hide (spl_keeps XO.out XI.out (S0.out.1 (by simp)))
      go_wp2_with fail
      refine (kholds_c (L := 6) (K := 6) HA.out FX.out.fv (by have := OA.out.1; omega) (by omega) (by omega) (by omega) (by omega)).mono ?_
      rintro e wx ⟨⟨o, rfl, ho⟩, bx⟩
      have D9 := hide ho
      replace PA := hide (PA.out.step bx)
      replace PB := hide (PB.out.step bx)
      replace HA := hide (HA.out.step bx)
      replace HB := hide (HB.out.step bx)
      replace FX := hide (FX.out.step bx)
      replace FB := hide (FB.out.step bx)
      replace C := hide (Below.step C.out C.out.size bx)
      clear ho bx
      clear p0 p1 p2 p3 p4 q0 q1 q2 q3 q4
      generalize wx = wq at *
      obtain ⟨p0, p1, p2, p3, p4⟩ := PA.out.all
      obtain ⟨q0, q1, q2, q3, q4⟩ := PB.out.all
      cases o
      case true =>
        go_wp2_with fail
        refine (kholds_c (L := 6) (K := 6) HA.out FX.out.fv (by have := OA.out.1; omega) (by omega) (by omega) (by omega) (by omega)).mono ?_
        rintro e wx ⟨⟨o, rfl, ho⟩, bx⟩
        have D0 := hide ho
        replace PA := hide (PA.out.step bx)
        replace PB := hide (PB.out.step bx)
        replace HA := hide (HA.out.step bx)
        replace HB := hide (HB.out.step bx)
        replace FX := hide (FX.out.step bx)
        replace FB := hide (FB.out.step bx)
        replace C := hide (Below.step C.out C.out.size bx)
        clear ho bx
        clear p0 p1 p2 p3 p4 q0 q1 q2 q3 q4
        generalize wx = wq at *
        obtain ⟨p0, p1, p2, p3, p4⟩ := PA.out.all
        obtain ⟨q0, q1, q2, q3, q4⟩ := PB.out.all
        cases o
        case false =>
          go_wp2_with fail
          go_ret
          exact ⟨rfl, Below.step B.out B.out.size C.out⟩

        have KA := hide (D0.out.1 (by simp))
        clear D0
        go_wp2_with fail
        refine (kround_g (L := 6) HA.out (FB.out.rl eb1_len) (by have := OA.out.1; omega) (by omega) (by omega)).mono ?_
        rintro e wy ⟨(⟨rfl, h⟩ | ⟨rfl, h, h2⟩ | ⟨r, rfl, h, hw, kg, rn, rl⟩), by1⟩
        · clear h
          replace C := C
          have bx := Below.step by1 by1.size (alloc_below wy kblk)
          replace PA := hide (PA.out.step bx)
          replace PB := hide (PB.out.step bx)
          replace HA := hide (HA.out.step bx)
          replace HB := hide (HB.out.step bx)
          replace FX := hide (FX.out.step bx)
          replace FB := hide (FB.out.step bx)
          replace C := hide (Below.step C.out C.out.size bx)
          clear bx by1
          clear p0 p1 p2 p3 p4 q0 q1 q2 q3 q4
          obtain ⟨p0, p1, p2, p3, p4⟩ := PA.out.all
          obtain ⟨q0, q1, q2, q3, q4⟩ := PB.out.all
          go_wp2_with fail
          refine (kdom_c (L := 6) (M := 6) HA.out HB.out (by have := OA.out.1; omega) (by have := OB.out.1; omega) (by omega) (by omega) (by omega) (by omega)).mono ?_
          rintro e wx ⟨⟨o, rfl, ho⟩, bx⟩
          have D1 := hide ho
          replace PA := hide (PA.out.step bx)
          replace PB := hide (PB.out.step bx)
          replace HA := hide (HA.out.step bx)
          replace HB := hide (HB.out.step bx)
          replace FX := hide (FX.out.step bx)
          replace FB := hide (FB.out.step bx)
          replace C := hide (Below.step C.out C.out.size bx)
          clear ho bx
          clear p0 p1 p2 p3 p4 q0 q1 q2 q3 q4
          generalize wx = wq at *
          obtain ⟨p0, p1, p2, p3, p4⟩ := PA.out.all
          obtain ⟨q0, q1, q2, q3, q4⟩ := PB.out.all
          cases o
          case false =>
            go_wp2_with fail
            go_ret
            exact ⟨rfl, Below.step B.out B.out.size C.out⟩

          go_wp2_with fail
          refine (kholds_c (L := 6) (K := 6) HB.out FX.out.fv (by have := OB.out.1; omega) (by omega) (by omega) (by omega) (by omega)).mono ?_
          rintro e wx ⟨⟨o, rfl, ho⟩, bx⟩
          obtain rfl : o = true := ho.2 (domi_keeps XO.out KA.out (D1.out.1 (by simp)))
          replace PA := hide (PA.out.step bx)
          replace PB := hide (PB.out.step bx)
          replace HA := hide (HA.out.step bx)
          replace HB := hide (HB.out.step bx)
          replace FX := hide (FX.out.step bx)
          replace FB := hide (FB.out.step bx)
          replace C := hide (Below.step C.out C.out.size bx)
          clear ho bx
          clear p0 p1 p2 p3 p4 q0 q1 q2 q3 q4
          generalize wx = wq at *
          obtain ⟨p0, p1, p2, p3, p4⟩ := PA.out.all
          obtain ⟨q0, q1, q2, q3, q4⟩ := PB.out.all
          go_wp2_with fail
          go_ret
          exact ⟨rfl, Below.step B.out B.out.size C.out⟩

        · clear h h2
          replace C := C
          have bx := Below.step by1 by1.size (alloc_below wy kblk)
          replace PA := hide (PA.out.step bx)
          replace PB := hide (PB.out.step bx)
          replace HA := hide (HA.out.step bx)
          replace HB := hide (HB.out.step bx)
          replace FX := hide (FX.out.step bx)
          replace FB := hide (FB.out.step bx)
          replace C := hide (Below.step C.out C.out.size bx)
          clear bx by1
          clear p0 p1 p2 p3 p4 q0 q1 q2 q3 q4
          obtain ⟨p0, p1, p2, p3, p4⟩ := PA.out.all
          obtain ⟨q0, q1, q2, q3, q4⟩ := PB.out.all
          go_wp2_with fail
          refine (kdom_c (L := 6) (M := 6) HA.out HB.out (by have := OA.out.1; omega) (by have := OB.out.1; omega) (by omega) (by omega) (by omega) (by omega)).mono ?_
          rintro e wx ⟨⟨o, rfl, ho⟩, bx⟩
          have D1 := hide ho
          replace PA := hide (PA.out.step bx)
          replace PB := hide (PB.out.step bx)
          replace HA := hide (HA.out.step bx)
          replace HB := hide (HB.out.step bx)
          replace FX := hide (FX.out.step bx)
          replace FB := hide (FB.out.step bx)
          replace C := hide (Below.step C.out C.out.size bx)
          clear ho bx
          clear p0 p1 p2 p3 p4 q0 q1 q2 q3 q4
          generalize wx = wq at *
          obtain ⟨p0, p1, p2, p3, p4⟩ := PA.out.all
          obtain ⟨q0, q1, q2, q3, q4⟩ := PB.out.all
          cases o
          case false =>
            go_wp2_with fail
            go_ret
            exact ⟨rfl, Below.step B.out B.out.size C.out⟩

          go_wp2_with fail
          refine (kholds_c (L := 6) (K := 6) HB.out FX.out.fv (by have := OB.out.1; omega) (by omega) (by omega) (by omega) (by omega)).mono ?_
          rintro e wx ⟨⟨o, rfl, ho⟩, bx⟩
          obtain rfl : o = true := ho.2 (domi_keeps XO.out KA.out (D1.out.1 (by simp)))
          replace PA := hide (PA.out.step bx)
          replace PB := hide (PB.out.step bx)
          replace HA := hide (HA.out.step bx)
          replace HB := hide (HB.out.step bx)
          replace FX := hide (FX.out.step bx)
          replace FB := hide (FB.out.step bx)
          replace C := hide (Below.step C.out C.out.size bx)
          clear ho bx
          clear p0 p1 p2 p3 p4 q0 q1 q2 q3 q4
          generalize wx = wq at *
          obtain ⟨p0, p1, p2, p3, p4⟩ := PA.out.all
          obtain ⟨q0, q1, q2, q3, q4⟩ := PB.out.all
          go_wp2_with fail
          go_ret
          exact ⟨rfl, Below.step B.out B.out.size C.out⟩

        · have RN := hide (rnd_keeps XO.out XI.out KA.out hw rn)
          have RL := hide rl
          have al := alloc_below wy (kbox r)
          have KR := hide (kg.kc.kv.step al)
          have PR := hide (Kq.new wy r)
          have bx := Below.step by1 by1.size al
          replace PA := hide (PA.out.step bx)
          replace PB := hide (PB.out.step bx)
          replace HA := hide (HA.out.step bx)
          replace HB := hide (HB.out.step bx)
          replace FX := hide (FX.out.step bx)
          replace FB := hide (FB.out.step bx)
          replace C := hide (Below.step C.out C.out.size bx)

          clear bx by1 al h hw kg rn rl
          clear p0 p1 p2 p3 p4 q0 q1 q2 q3 q4

          obtain ⟨p0, p1, p2, p3, p4⟩ := PA.out.all
          obtain ⟨q0, q1, q2, q3, q4⟩ := PB.out.all

          obtain ⟨r0, r1, r2, r3, r4⟩ := PR.out.all
          go_wp2_with fail
          refine (kholds_c (K := 6) KR.out FX.out.fv (by have := OA.out.1; have := RL.out; omega) (by omega) (by have := OA.out.1; omega) (by omega) (by omega)).mono ?_
          rintro e wx ⟨⟨o, rfl, ho⟩, bx⟩
          obtain rfl : o = true := ho.2 RN.out
          replace PA := hide (PA.out.step bx)
          replace PB := hide (PB.out.step bx)
          replace HA := hide (HA.out.step bx)
          replace HB := hide (HB.out.step bx)
          replace FX := hide (FX.out.step bx)
          replace FB := hide (FB.out.step bx)
          replace C := hide (Below.step C.out C.out.size bx)

          clear ho bx r0 r1 r2 r3 r4
          clear p0 p1 p2 p3 p4 q0 q1 q2 q3 q4

          generalize wx = wq2 at *
          obtain ⟨p0, p1, p2, p3, p4⟩ := PA.out.all
          obtain ⟨q0, q1, q2, q3, q4⟩ := PB.out.all

          go_wp2_with fail
          refine (kdom_c (L := 6) (M := 6) HA.out HB.out (by have := OA.out.1; omega) (by have := OB.out.1; omega) (by omega) (by omega) (by omega) (by omega)).mono ?_
          rintro e wx ⟨⟨o, rfl, ho⟩, bx⟩
          have D1 := hide ho
          replace PA := hide (PA.out.step bx)
          replace PB := hide (PB.out.step bx)
          replace HA := hide (HA.out.step bx)
          replace HB := hide (HB.out.step bx)
          replace FX := hide (FX.out.step bx)
          replace FB := hide (FB.out.step bx)
          replace C := hide (Below.step C.out C.out.size bx)
          clear ho bx
          clear p0 p1 p2 p3 p4 q0 q1 q2 q3 q4
          generalize wx = wq at *
          obtain ⟨p0, p1, p2, p3, p4⟩ := PA.out.all
          obtain ⟨q0, q1, q2, q3, q4⟩ := PB.out.all
          cases o
          case false =>
            go_wp2_with fail
            go_ret
            exact ⟨rfl, Below.step B.out B.out.size C.out⟩

          go_wp2_with fail
          refine (kholds_c (L := 6) (K := 6) HB.out FX.out.fv (by have := OB.out.1; omega) (by omega) (by omega) (by omega) (by omega)).mono ?_
          rintro e wx ⟨⟨o, rfl, ho⟩, bx⟩
          obtain rfl : o = true := ho.2 (domi_keeps XO.out KA.out (D1.out.1 (by simp)))
          replace PA := hide (PA.out.step bx)
          replace PB := hide (PB.out.step bx)
          replace HA := hide (HA.out.step bx)
          replace HB := hide (HB.out.step bx)
          replace FX := hide (FX.out.step bx)
          replace FB := hide (FB.out.step bx)
          replace C := hide (Below.step C.out C.out.size bx)
          clear ho bx
          clear p0 p1 p2 p3 p4 q0 q1 q2 q3 q4
          generalize wx = wq at *
          obtain ⟨p0, p1, p2, p3, p4⟩ := PA.out.all
          obtain ⟨q0, q1, q2, q3, q4⟩ := PB.out.all
          go_wp2_with fail
          go_ret
          exact ⟨rfl, Below.step B.out B.out.size C.out⟩
      have NA := hide (show ¬ Kpt a.s (dt (tms a.d) (xf xs)) a.x.r from fun h => absurd (D9.out.2 h) (by simp))
      clear D9
      go_wp2_with fail
      refine (kholds_c (L := 6) (K := 6) HB.out FX.out.fv (by have := OB.out.1; omega) (by omega) (by omega) (by omega) (by omega)).mono ?_
      rintro e wx ⟨⟨o, rfl, ho⟩, bx⟩
      obtain rfl : o = true := ho.2 (SK.out.resolve_left NA.out)
      replace PA := hide (PA.out.step bx)
      replace PB := hide (PB.out.step bx)
      replace HA := hide (HA.out.step bx)
      replace HB := hide (HB.out.step bx)
      replace FX := hide (FX.out.step bx)
      replace FB := hide (FB.out.step bx)
      replace C := hide (Below.step C.out C.out.size bx)
      clear ho bx
      clear p0 p1 p2 p3 p4 q0 q1 q2 q3 q4
      generalize wx = wq at *
      obtain ⟨p0, p1, p2, p3, p4⟩ := PA.out.all
      obtain ⟨q0, q1, q2, q3, q4⟩ := PB.out.all
      go_wp2_with fail
      refine (kholds_c (L := 6) (K := 6) HA.out FX.out.fv (by have := OA.out.1; omega) (by omega) (by omega) (by omega) (by omega)).mono ?_
      rintro e wx ⟨⟨o, rfl, ho⟩, bx⟩
      have D0 := hide ho
      replace PA := hide (PA.out.step bx)
      replace PB := hide (PB.out.step bx)
      replace HA := hide (HA.out.step bx)
      replace HB := hide (HB.out.step bx)
      replace FX := hide (FX.out.step bx)
      replace FB := hide (FB.out.step bx)
      replace C := hide (Below.step C.out C.out.size bx)
      clear ho bx
      clear p0 p1 p2 p3 p4 q0 q1 q2 q3 q4
      generalize wx = wq at *
      obtain ⟨p0, p1, p2, p3, p4⟩ := PA.out.all
      obtain ⟨q0, q1, q2, q3, q4⟩ := PB.out.all
      cases o
      case false =>
        go_wp2_with fail
        go_ret
        exact ⟨rfl, Below.step B.out B.out.size C.out⟩

      have KA := hide (D0.out.1 (by simp))
      clear D0
      go_wp2_with fail
      refine (kround_g (L := 6) HA.out (FB.out.rl eb1_len) (by have := OA.out.1; omega) (by omega) (by omega)).mono ?_
      rintro e wy ⟨(⟨rfl, h⟩ | ⟨rfl, h, h2⟩ | ⟨r, rfl, h, hw, kg, rn, rl⟩), by1⟩
      · clear h
        replace C := C
        have bx := Below.step by1 by1.size (alloc_below wy kblk)
        replace PA := hide (PA.out.step bx)
        replace PB := hide (PB.out.step bx)
        replace HA := hide (HA.out.step bx)
        replace HB := hide (HB.out.step bx)
        replace FX := hide (FX.out.step bx)
        replace FB := hide (FB.out.step bx)
        replace C := hide (Below.step C.out C.out.size bx)
        clear bx by1
        clear p0 p1 p2 p3 p4 q0 q1 q2 q3 q4
        obtain ⟨p0, p1, p2, p3, p4⟩ := PA.out.all
        obtain ⟨q0, q1, q2, q3, q4⟩ := PB.out.all
        go_wp2_with fail
        refine (kdom_c (L := 6) (M := 6) HA.out HB.out (by have := OA.out.1; omega) (by have := OB.out.1; omega) (by omega) (by omega) (by omega) (by omega)).mono ?_
        rintro e wx ⟨⟨o, rfl, ho⟩, bx⟩
        have D1 := hide ho
        replace PA := hide (PA.out.step bx)
        replace PB := hide (PB.out.step bx)
        replace HA := hide (HA.out.step bx)
        replace HB := hide (HB.out.step bx)
        replace FX := hide (FX.out.step bx)
        replace FB := hide (FB.out.step bx)
        replace C := hide (Below.step C.out C.out.size bx)
        clear ho bx
        clear p0 p1 p2 p3 p4 q0 q1 q2 q3 q4
        generalize wx = wq at *
        obtain ⟨p0, p1, p2, p3, p4⟩ := PA.out.all
        obtain ⟨q0, q1, q2, q3, q4⟩ := PB.out.all
        cases o
        case false =>
          go_wp2_with fail
          go_ret
          exact ⟨rfl, Below.step B.out B.out.size C.out⟩

        go_wp2_with fail
        refine (kholds_c (L := 6) (K := 6) HB.out FX.out.fv (by have := OB.out.1; omega) (by omega) (by omega) (by omega) (by omega)).mono ?_
        rintro e wx ⟨⟨o, rfl, ho⟩, bx⟩
        obtain rfl : o = true := ho.2 (domi_keeps XO.out KA.out (D1.out.1 (by simp)))
        replace PA := hide (PA.out.step bx)
        replace PB := hide (PB.out.step bx)
        replace HA := hide (HA.out.step bx)
        replace HB := hide (HB.out.step bx)
        replace FX := hide (FX.out.step bx)
        replace FB := hide (FB.out.step bx)
        replace C := hide (Below.step C.out C.out.size bx)
        clear ho bx
        clear p0 p1 p2 p3 p4 q0 q1 q2 q3 q4
        generalize wx = wq at *
        obtain ⟨p0, p1, p2, p3, p4⟩ := PA.out.all
        obtain ⟨q0, q1, q2, q3, q4⟩ := PB.out.all
        go_wp2_with fail
        go_ret
        exact ⟨rfl, Below.step B.out B.out.size C.out⟩

      · clear h h2
        replace C := C
        have bx := Below.step by1 by1.size (alloc_below wy kblk)
        replace PA := hide (PA.out.step bx)
        replace PB := hide (PB.out.step bx)
        replace HA := hide (HA.out.step bx)
        replace HB := hide (HB.out.step bx)
        replace FX := hide (FX.out.step bx)
        replace FB := hide (FB.out.step bx)
        replace C := hide (Below.step C.out C.out.size bx)
        clear bx by1
        clear p0 p1 p2 p3 p4 q0 q1 q2 q3 q4
        obtain ⟨p0, p1, p2, p3, p4⟩ := PA.out.all
        obtain ⟨q0, q1, q2, q3, q4⟩ := PB.out.all
        go_wp2_with fail
        refine (kdom_c (L := 6) (M := 6) HA.out HB.out (by have := OA.out.1; omega) (by have := OB.out.1; omega) (by omega) (by omega) (by omega) (by omega)).mono ?_
        rintro e wx ⟨⟨o, rfl, ho⟩, bx⟩
        have D1 := hide ho
        replace PA := hide (PA.out.step bx)
        replace PB := hide (PB.out.step bx)
        replace HA := hide (HA.out.step bx)
        replace HB := hide (HB.out.step bx)
        replace FX := hide (FX.out.step bx)
        replace FB := hide (FB.out.step bx)
        replace C := hide (Below.step C.out C.out.size bx)
        clear ho bx
        clear p0 p1 p2 p3 p4 q0 q1 q2 q3 q4
        generalize wx = wq at *
        obtain ⟨p0, p1, p2, p3, p4⟩ := PA.out.all
        obtain ⟨q0, q1, q2, q3, q4⟩ := PB.out.all
        cases o
        case false =>
          go_wp2_with fail
          go_ret
          exact ⟨rfl, Below.step B.out B.out.size C.out⟩

        go_wp2_with fail
        refine (kholds_c (L := 6) (K := 6) HB.out FX.out.fv (by have := OB.out.1; omega) (by omega) (by omega) (by omega) (by omega)).mono ?_
        rintro e wx ⟨⟨o, rfl, ho⟩, bx⟩
        obtain rfl : o = true := ho.2 (domi_keeps XO.out KA.out (D1.out.1 (by simp)))
        replace PA := hide (PA.out.step bx)
        replace PB := hide (PB.out.step bx)
        replace HA := hide (HA.out.step bx)
        replace HB := hide (HB.out.step bx)
        replace FX := hide (FX.out.step bx)
        replace FB := hide (FB.out.step bx)
        replace C := hide (Below.step C.out C.out.size bx)
        clear ho bx
        clear p0 p1 p2 p3 p4 q0 q1 q2 q3 q4
        generalize wx = wq at *
        obtain ⟨p0, p1, p2, p3, p4⟩ := PA.out.all
        obtain ⟨q0, q1, q2, q3, q4⟩ := PB.out.all
        go_wp2_with fail
        go_ret
        exact ⟨rfl, Below.step B.out B.out.size C.out⟩

      · have RN := hide (rnd_keeps XO.out XI.out KA.out hw rn)
        have RL := hide rl
        have al := alloc_below wy (kbox r)
        have KR := hide (kg.kc.kv.step al)
        have PR := hide (Kq.new wy r)
        have bx := Below.step by1 by1.size al
        replace PA := hide (PA.out.step bx)
        replace PB := hide (PB.out.step bx)
        replace HA := hide (HA.out.step bx)
        replace HB := hide (HB.out.step bx)
        replace FX := hide (FX.out.step bx)
        replace FB := hide (FB.out.step bx)
        replace C := hide (Below.step C.out C.out.size bx)

        clear bx by1 al h hw kg rn rl
        clear p0 p1 p2 p3 p4 q0 q1 q2 q3 q4

        obtain ⟨p0, p1, p2, p3, p4⟩ := PA.out.all
        obtain ⟨q0, q1, q2, q3, q4⟩ := PB.out.all

        obtain ⟨r0, r1, r2, r3, r4⟩ := PR.out.all
        go_wp2_with fail
        refine (kholds_c (K := 6) KR.out FX.out.fv (by have := OA.out.1; have := RL.out; omega) (by omega) (by have := OA.out.1; omega) (by omega) (by omega)).mono ?_
        rintro e wx ⟨⟨o, rfl, ho⟩, bx⟩
        obtain rfl : o = true := ho.2 RN.out
        replace PA := hide (PA.out.step bx)
        replace PB := hide (PB.out.step bx)
        replace HA := hide (HA.out.step bx)
        replace HB := hide (HB.out.step bx)
        replace FX := hide (FX.out.step bx)
        replace FB := hide (FB.out.step bx)
        replace C := hide (Below.step C.out C.out.size bx)

        clear ho bx r0 r1 r2 r3 r4
        clear p0 p1 p2 p3 p4 q0 q1 q2 q3 q4

        generalize wx = wq2 at *
        obtain ⟨p0, p1, p2, p3, p4⟩ := PA.out.all
        obtain ⟨q0, q1, q2, q3, q4⟩ := PB.out.all

        go_wp2_with fail
        refine (kdom_c (L := 6) (M := 6) HA.out HB.out (by have := OA.out.1; omega) (by have := OB.out.1; omega) (by omega) (by omega) (by omega) (by omega)).mono ?_
        rintro e wx ⟨⟨o, rfl, ho⟩, bx⟩
        have D1 := hide ho
        replace PA := hide (PA.out.step bx)
        replace PB := hide (PB.out.step bx)
        replace HA := hide (HA.out.step bx)
        replace HB := hide (HB.out.step bx)
        replace FX := hide (FX.out.step bx)
        replace FB := hide (FB.out.step bx)
        replace C := hide (Below.step C.out C.out.size bx)
        clear ho bx
        clear p0 p1 p2 p3 p4 q0 q1 q2 q3 q4
        generalize wx = wq at *
        obtain ⟨p0, p1, p2, p3, p4⟩ := PA.out.all
        obtain ⟨q0, q1, q2, q3, q4⟩ := PB.out.all
        cases o
        case false =>
          go_wp2_with fail
          go_ret
          exact ⟨rfl, Below.step B.out B.out.size C.out⟩

        go_wp2_with fail
        refine (kholds_c (L := 6) (K := 6) HB.out FX.out.fv (by have := OB.out.1; omega) (by omega) (by omega) (by omega) (by omega)).mono ?_
        rintro e wx ⟨⟨o, rfl, ho⟩, bx⟩
        obtain rfl : o = true := ho.2 (domi_keeps XO.out KA.out (D1.out.1 (by simp)))
        replace PA := hide (PA.out.step bx)
        replace PB := hide (PB.out.step bx)
        replace HA := hide (HA.out.step bx)
        replace HB := hide (HB.out.step bx)
        replace FX := hide (FX.out.step bx)
        replace FB := hide (FB.out.step bx)
        replace C := hide (Below.step C.out C.out.size bx)
        clear ho bx
        clear p0 p1 p2 p3 p4 q0 q1 q2 q3 q4
        generalize wx = wq at *
        obtain ⟨p0, p1, p2, p3, p4⟩ := PA.out.all
        obtain ⟨q0, q1, q2, q3, q4⟩ := PB.out.all
        go_wp2_with fail
        go_ret
        exact ⟨rfl, Below.step B.out B.out.size C.out⟩
end Go.Proofs.YtbkionleakgmmaaGreat
