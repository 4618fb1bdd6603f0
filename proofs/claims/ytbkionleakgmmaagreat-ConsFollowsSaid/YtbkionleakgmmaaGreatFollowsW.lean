/-
  The walk of ConsFollows: true.
-/
import Derived.Test.YtbkionleakgmmaaGreatBundleN


namespace Go.Proofs.YtbkionleakgmmaaGreat
open Go.RowKit Go.Proofs.YtbkionleakgmmaaGreat.Num
set_option linter.unusedVariables false
set_option linter.unusedSimpArgs false
set_option maxRecDepth 100000

theorem comb_keeps {l : List Kx} {o f : List Rx} {t : Int} {ts : List Tm} {r : Rat} (h : CmT l o l.length ts r) (hs : IsS t) (hm : ¬ CmRule l o t) (hk : ∀ (j : Nat) x, l[j]? = some x → Kpt x.s (dt (tms x.d) (xf f)) x.x.r) : Kpt t (dt ts (xf f)) r := by
  rw [dt_comb h.1 (n := f.length) (fun c hc => xf_out f c hc), h.2]
  refine kpt_sum (s := fun i => (kAt l i).s) hs (fun i hi => ?_) (fun i hi => ?_)
  · obtain ⟨x, hx⟩ := len_of hi
    rw [kAt_of hx]
    exact hk i x hx
  · obtain ⟨x, hx⟩ := len_of hi
    refine Classical.byContradiction fun h => hm ⟨i, x, hx, ?_⟩
    rw [← kAt_of hx]
    exact h

set_option maxHeartbeats 16000000 in
theorem follows_go (w : World) (v : Value) (l : List Kx) (u : Value) (o : List Rx) (y : Value) (f : List Rx) (hv : Kl w v l 17592186043904) (hu : Fv w u o 17592186043904) (hy : Fv w y f 17592186043904) :
    Calls Tryz.prog 10 #[v, u, y] w fun e w' => e = .returned (.bool true) ∧ Below w.heap.size w w' := by
  obtain ⟨A, c, e1, hc1, hc2, hc3⟩ := id hv.1
  obtain ⟨n, hlen⟩ : ∃ n, n = l.length := ⟨_, rfl⟩
  rw [← hlen] at e1 hc1
  subst e1
  obtain ⟨A1, n1, c1, rfl⟩ := rv_sl hu.1
  obtain ⟨A2, n2, c2, rfl⟩ := rv_sl hy.1
  have HV := hide hv
  have HU := hide hu
  have HY := hide hy
  have HN := hide hlen
  unfold maxLen at hc2
  clear hv hu hy hc3 hlen
  go_enter Tryz.func10, Tryz.ntmps10
  go_wp2_with fail
  refine (kspeaks_true _).mono ?_
  rintro e w1 ⟨rfl, bx⟩
  have B := hide bx
  clear bx
  go_wp2_with fail
  refine (kgreat_c (HV.out.step B.out) (by omega)).mono ?_
  rintro e w2 ⟨bx, p, rfl, hp⟩
  replace B := hide (Below.step B.out B.out.size bx)
  have HP := hide hp
  clear bx hp
  cases p
  case true =>
    go_wp2_with fail
    go_ret
    exact ⟨rfl, B.out⟩
  have KS := hide (HP.out rfl)
  clear HP
  go_wp2_with fail
  refine (greatall_c (HU.out.step B.out) (by omega)).mono ?_
  rintro e w3 ⟨bx, p, rfl, hp⟩
  replace B := hide (Below.step B.out B.out.size bx)
  have HP := hide hp
  clear bx hp
  cases p
  case true =>
    go_wp2_with fail
    go_ret
    exact ⟨rfl, B.out⟩
  have OS := hide (HP.out rfl)
  clear HP
  go_wp2_with fail
  refine (greatall_c (HY.out.step B.out) (by omega)).mono ?_
  rintro e w4 ⟨bx, p, rfl, hp⟩
  replace B := hide (Below.step B.out B.out.size bx)
  have HP := hide hp
  clear bx hp
  cases p
  case true =>
    go_wp2_with fail
    go_ret
    exact ⟨rfl, B.out⟩
  have YS := hide (HP.out rfl)
  clear HP
  replace HV := hide (HV.out.tight KS.out.2)
  replace HU := hide (HU.out.tight OS.out.2)
  replace HY := hide (HY.out.tight YS.out.2)
  go_wp2_with fail
  go_loopw [26] (fun iv wr => ∃ (k : Nat), k ≤ n ∧ iv = .int .i64 (k : Int) ∧ Hid (Below w.heap.size w wr) ∧ Hid (∀ (j : Nat) x, j < k → l[j]? = some x → Kpt x.s (dt (tms x.d) (xf f)) x.x.r)) (fun iv _ => n - (intOf iv).toNat)
  case atStart => exact ⟨0, Nat.zero_le _, rfl, B, hide (fun j x h => by omega)⟩
  case round =>
    obtain ⟨k, hk, rfl, B, P⟩ := hrel
    by_cases hlt : k < n
    · obtain ⟨x, hx⟩ := len_of (d := l) (k := k) (by rw [← HN.out]; exact hlt)
      have hm := List.mem_of_getElem? hx
      have KD := hide ((KS.out.2 x hm).1)
      have b8 := alloc_below wr (kbox x)
      have KX := hide (((HV.out.2 x hm).step B.out).step b8)
      have YX := hide ((HY.out.step B.out).step b8)
      obtain ⟨b, off, rfl, hb, hc⟩ := (HV.out.1.step B.out).get hx
      have c0 := hc 0 _ rfl
      have c1' := hc 1 _ rfl
      have c2' := hc 2 _ rfl
      have c3 := hc 3 _ rfl
      have c4 := hc 4 _ rfl
      rw [Nat.add_zero] at c0
      have l0 : (0 : Int) ≤ (k : Int) := by omega
      have l1 : (k : Int) < (n : Int) := by omega
      have HX := hide hx
      have B8 := hide (Below.step B.out B.out.size b8)
      clear hc hb hx hm b8
      go_wp2_with fail
      refine (rholds_f (L := 6) (K := 6) KX.out YX.out (by have := KD.out; omega) (by omega) (by omega) (by omega) (by omega) (by have := YS.out.1; omega)).mono ?_
      rintro e w5 ⟨⟨p, rfl, hp⟩, bx⟩
      have HP := hide hp
      have B9 := hide (Below.step B8.out B8.out.size bx)
      clear hp bx c0 c1' c2' c3 c4
      cases p
      · go_wp2_with fail
        go_ret
        exact ⟨rfl, B9.out⟩
      · have P3 := hide (show ∀ (j : Nat) y, j < k + 1 → l[j]? = some y → Kpt y.s (dt (tms y.d) (xf f)) y.x.r from fun j y hj hy => by
          by_cases h : j = k
          · subst h
            rw [HX.out] at hy
            injection hy with hy
            subst hy
            exact HP.out.1 (by simp)
          · exact P.out j y (by omega) hy)
        go_wp2_with fail
        exact ⟨⟨k + 1, by omega, by go_num, B9, P3⟩, by simp [intOf]; omega⟩
    · obtain rfl : k = n := by omega
      have KP := hide (show ∀ (j : Nat) x, l[j]? = some x → Kpt x.s (dt (tms x.d) (xf f)) x.x.r from fun j x hx => P.out j x (by have := (List.getElem?_eq_some_iff.1 hx).1; rw [HN.out]; exact this) hx)
      clear P
      obtain ⟨wo, hwo⟩ : ∃ wo, wo = wr := ⟨_, rfl⟩
      subst hwo
      go_wp2_with fail
      go_loopw [9] (fun iv wr => ∃ (s : Nat), 1 ≤ s ∧ s ≤ 4 ∧ iv = .int .i64 (s : Int) ∧ Hid (Below w.heap.size w wr)) (fun iv _ => 4 - (intOf iv).toNat)
      case atStart => exact ⟨1, by omega, by omega, rfl, B⟩
      case round =>
        obtain ⟨s, hs1, hs4, rfl, B⟩ := hrel
        by_cases hlt : s < 4
        · have t0 : decide ((s : Int) < 4) = true := decide_eq_true (by omega)
          go_wp2_with fail
          refine (kcombine_g (t := (s : Int)) (HV.out.step B.out) (HU.out.step B.out) (fun k hk => (KS.out.2 k hk).1) KS.out.1).mono ?_
          rintro e w5 ⟨(⟨rfl, h⟩ | ⟨rfl, h, h2⟩ | ⟨k', rfl, h, h2, kg, es, ct, kl⟩), bx⟩
          · replace B := hide (Below.step (Below.step B.out B.out.size bx) (Below.step B.out B.out.size bx).size (alloc_below w5 kblk))
            clear h bx
            go_wp2_with fail
            exact ⟨⟨s + 1, by omega, by omega, by go_num, B⟩, by simp [intOf]; omega⟩
          · replace B := hide (Below.step (Below.step B.out B.out.size bx) (Below.step B.out B.out.size bx).size (alloc_below w5 kblk))
            clear h h2 bx
            go_wp2_with fail
            exact ⟨⟨s + 1, by omega, by omega, by go_num, B⟩, by simp [intOf]; omega⟩
          · have IS := hide (show IsS (s : Int) from Classical.byContradiction fun e => h (.inl e))
            have KK := hide (comb_keeps ct IS.out h2 KP.out)
            have ES := hide es
            have NL := hide kl
            have al := alloc_below w5 (kbox k')
            have KV := hide (kg.kc.kv.step al)
            have PK := hide (Kq.new w5 k')
            replace B := hide (Below.step (Below.step B.out B.out.size bx) (Below.step B.out B.out.size bx).size al)
            clear h h2 kg es ct kl bx al
            obtain ⟨p0, p1, p2, p3, p4⟩ := PK.out.all
            go_wp2_with fail
            refine (kholds_c (L := 141200) (K := 6) KV.out (HY.out.step B.out) (by have := NL.out; omega) (by omega) (by omega) (by omega) (by omega)).mono ?_
            rintro e w6 ⟨⟨p, rfl, hp⟩, bx⟩
            obtain rfl : p = true := hp.2 (by rw [ES.out]; exact KK.out)
            replace KV := hide (KV.out.step bx)
            replace PK := hide (PK.out.step bx)
            replace B := hide (Below.step B.out B.out.size bx)
            clear hp bx p0 p1 p2 p3 p4
            obtain ⟨p0, p1, p2, p3, p4⟩ := PK.out.all
            go_wp2_with fail
            refine (kfalse_c (L := 141200) KV.out (by have := NL.out; omega) (by omega) (by omega)).mono ?_
            rintro e w7 ⟨⟨p, rfl, hp⟩, bx⟩
            obtain rfl : p = false := Bool.eq_false_iff.2 (fun e => kpt_unfalse (n := f.length) (fun c hc => xf_out f c hc) (show Kpt k'.s (dt (tms k'.d) (xf f)) k'.x.r by rw [ES.out]; exact KK.out) (hp.1 e))
            replace B := hide (Below.step B.out B.out.size bx)
            clear hp bx p0 p1 p2 p3 p4
            go_wp2_with fail
            exact ⟨⟨s + 1, by omega, by omega, by go_num, B⟩, by simp [intOf]; omega⟩
        · obtain rfl : s = 4 := by omega
          go_wp2_with fail
          go_ret
          exact ⟨rfl, B.out⟩
end Go.Proofs.YtbkionleakgmmaaGreat
