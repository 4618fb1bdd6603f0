/-
  The document's own answer: quotient and rest, place by place.
-/
import Derived.Test.YtkonakjchimniaaDoorRefF
namespace Go.Proofs.YtkonakjchimniaaDoor
open Go.RowKit Go.Proofs.YtkonakjchimniaaDoor.Num
set_option linter.unusedVariables false
set_option maxRecDepth 100000

theorem fill_back (j low : Nat) (qs : List Nat) : (List.replicate (j + 1) 0 ++ qs).set j low = List.replicate j 0 ++ low :: qs := by
  rw [List.replicate_succ', List.append_assoc, List.set_append_right _ _ (by simp)]
  simp

theorem rdiv_step {j x lo Y R S qv : Nat} {xs : List Nat} (hx : xs.getD j 0 = x) (h : qv * Y + R = vl 10000 (xs.drop (j + 1))) (hS : S = x + 10000 * R) :
    (lo + 10000 * qv) * Y + (S - lo * Y) = vl 10000 (xs.drop j) + (lo * Y - S) := by
  rw [vl_drop 10000 xs j, hx, ← h, Nat.add_mul, Nat.mul_assoc, Nat.mul_add]
  omega

def DmOut (t : TypeId) (w : World) (n Y M : Nat) (xs : List Nat) (rv iv : Value) (wr : World) : Prop :=
  ∃ (k R : Nat) (qs : List Nat), k ≤ n ∧ iv = .int .i64 ((k : Int) - 1) ∧ Hid (qs.length + k = n) ∧ Dg 10000 qs ∧ Hid (vl 10000 qs * Y + R = vl 10000 (xs.drop k)) ∧ Hid (R < Y) ∧
    Own .i64 t wr (w.heap.size + 1) rv (cn 10000 R) ∧ Row .i64 t wr w.heap.size 0 (madeCells #[.int .i64 0] n) (List.replicate k 0 ++ qs) ∧ Below w.heap.size w wr
def DmIn (w1 : World) (Y S : Nat) (lv hv : Value) (wr : World) : Prop :=
  ∃ lo hi : Nat, lo < hi ∧ hi ≤ 10000 ∧ lv = .int .i64 (lo : Int) ∧ hv = .int .i64 (hi : Int) ∧ Hid (lo * Y ≤ S) ∧ Hid (S < hi * Y) ∧ Below w1.heap.size w1 wr

/-- What it leaves: quotient and rest. -/
def DmRet (t : TypeId) (w : World) (X Y : Nat) (e : Ending) (w' : World) : Prop :=
  ∃ q r, e = .returned (.tuple #[q, r]) ∧ Own .i64 t w' w.heap.size q (cn 10000 (X / Y)) ∧ Own .i64 t w' w.heap.size r (cn 10000 (X % Y)) ∧ Below w.heap.size w w'

set_option maxHeartbeats 4000000 in
theorem rdivmod_any (A : Option Addr) (n c : Nat) (xs : List Nat) (bv : Value) (Y M : Nat) (w : World) (hx : Rd .i64 w w.heap.size A n xs) (hy : Iw w bv Y M)
    (dx : Dg 10000 xs) (hY : 0 < Y) (hn : n ≤ 100000000000) (hm : M ≤ 100000000000) :
    Calls Tryd.prog 19 #[.slice A n c, bv] w (DmRet 3 w (vl 10000 xs) Y) := by
  obtain ⟨i0, hi, hz0, hz1, hz2⟩ := info_parts info_int
  have hmk := make_int n (by omega)
  have Dx := hide dx
  have HY := hide hY
  have hYM := hide hy.lt
  have HB := hide hy
  obtain ⟨X, hX⟩ : ∃ X, Hid (vl 10000 xs = X) := ⟨_, hide rfl⟩
  have e0 : Hid (vl 10000 ([] : List Nat) * Y + 0 = vl 10000 (xs.drop n)) := hide (by rw [List.drop_eq_nil_of_le (by have := hx.1; omega)]; simp [vl])
  rw [hX.out]
  clear dx hY hy
  go_enter Tryd.func19, Tryd.ntmps19
  go_wp2_with fail
  go_loopw [7, 8] (fun rv iv wr => DmOut 3 w n Y M xs rv iv wr) (fun _ iv _ => (intOf iv + 1).toNat)
  case atStart =>
    refine ⟨n, 0, [], Nat.le_refl _, rfl, hide (by simp), Dg.nil, e0, HY, ?_, ?_, ?_⟩
    · rw [cn_zero]
      have h := own_empty .i64 3 (w.alloc (.cells (madeCells #[.int .i64 0] n) 3)) (w.heap.size + 1) (by simp)
      simpa using h
    · rw [List.append_nil]
      exact (Row.made w .i64 3 n).alloc _
    · exact ((Below.refl _ _).alloc (Nat.le_refl _) _).alloc (by simp) _
  case round =>
    obtain ⟨k, R, qs, hk, rfl, hql, dq, hv, hR, hown, hrow, hbel⟩ := hrel
    clear e0 hmk
    rcases Nat.eq_zero_or_pos k with h0 | h0
    · subst h0
      have e := hv.out
      rw [List.drop_zero, hX.out] at e
      have eq : X / Y = vl 10000 qs := by rw [← e]; exact (Nat.div_eq_of_lt_le (by omega) (by rw [Nat.add_mul]; have := hR.out; omega))
      have er : X % Y = R := by rw [← e, Nat.add_comm, Nat.add_mul_mod_self_right]; exact Nat.mod_eq_of_lt hR.out
      rw [List.replicate_zero, List.nil_append] at hrow
      have hL := hql.out
      rw [Nat.add_zero] at hL
      have r1 : Rd .i64 wr wr.heap.size (some ⟨w.heap.size, 0, none⟩) n qs := ⟨hL, fun _ => ⟨_, _, rfl, hrow.lt, fun j hj => hrow.cell (by omega)⟩⟩
      have ht := rtrim_any (some ⟨w.heap.size, 0, none⟩) n n qs wr r1 (by omega)
      have etz : tz qs = cn 10000 (X / Y) := by rw [eq, cn_vl B_two dq]
      rw [etz] at ht
      have Er := hide er
      have Hown := hide hown
      have Hbel := hide hbel
      have Ht := hide ht
      clear hL e etz dq hv hql hrow hbel r1 hx hR hX Dx hown ht eq er HB hYM HY hn hm
      go_wp2_with (go_at_call 61; refine Ht.out.mono ?_; rintro e w' ⟨v, rfl, ho, hb⟩)
      go_ret2
      have fo := ho.mono Hbel.out.size
      have fr := (Hown.out.below hb (Nat.le_refl _)).mono (show w.heap.size ≤ w.heap.size + 1 by omega)
      have fb := Hbel.out.trans (hb.mono Hbel.out.size)
      rw [← Er.out] at fr
      exact ⟨_, _, rfl, fo, fr, fb⟩
    · obtain ⟨j, rfl⟩ : ∃ j, k = j + 1 := ⟨k - 1, by omega⟩
      obtain ⟨wo, hwo⟩ : ∃ wo, wo = wr := ⟨_, rfl⟩
      subst hwo
      have ej : ((j + 1 : Nat) : Int) - 1 = (j : Int) := by omega
      rw [ej]
      obtain ⟨x, ex⟩ : ∃ x, Hid (xs.getD j 0 = x) := ⟨_, hide rfl⟩
      have bx : x < 10000 := by rw [← ex.out]; exact Dx.out.getD (by omega) j
      have hx2 := hx.below hbel (Nat.le_refl _)
      obtain ⟨b, o, rfl, hbb, hcx⟩ := hx2.at_ (show j < n by omega)
      rw [ex.out] at hcx
      have i1 : (j : Int) < (n : Int) := by omega
      obtain ⟨S, hS⟩ : ∃ S, Hid (S = x + 10000 * R) := ⟨_, hide rfl⟩
      have hSY : Hid (S < 10000 * Y) := hide (by have := hR.out; have := hS.out; omega)
      have hRM : R < 10000 ^ M := Nat.lt_trans hR.out hYM.out
      have hlR : Hid ((cn 10000 R).length + 1 ≤ 17592186044416) := hide (by have := cn_length_le B_two hRM; omega)
      have hSM : Hid (S < 10000 ^ (M + 1)) := hide (by rw [Nat.pow_succ]; have := hS.out; omega)
      have eS : Hid (vl 10000 (x :: cn 10000 R) = S) := hide (by rw [hS.out]; simp only [vl]; rw [vl_cn B_two])
      have dS : Hid (Dg 10000 (x :: cn 10000 R)) := hide (Dg.cons bx (dg_cn B_two R))
      -- what stays behind the cut of the rest
      have Hown := hide hown
      have Hbel := hide hbel
      have Hrow := hide hrow
      have HRM := hide hRM
      have Hx := hide hx
      have trimS : Hid (∀ v' w', Own .i64 3 w' wo.heap.size v' (x :: cn 10000 R) → Calls Tryd.prog 61 #[v'] w' (INew w' S (M + 1))) := hide (by
        intro v' w' ho
        obtain ⟨A1, c1, rfl, h1, h2, h3, _⟩ := ho.form
        have hl := hlR.out
        have h := rtrim_any A1 _ c1 _ w' h3 (by simp only [List.length_cons]; have := cn_length_le B_two hRM; omega)
        refine h.mono fun e w2 h => INew.of ?_ hSM.out
        rw [← cn_vl B_two dS.out, eS.out] at h
        exact h)
      clear hown hbel hrow hRM hx hx2 hR hbb bx
      go_wp2_with (first
        | (at_builtin; go_must (refine wpList_cons rfl (.tmp 27) (.tmp 28) 29 rfl Tryd.underlying29 hi hz0 hz1 hz2 rfl wo x _ _ (cn 10000 R) Hown.out rfl rfl hlR.out (by decide) ?_); intro v0 w0 ho hb0)
        | (go_at_call 61; refine (trimS.out _ _ ho).mono ?_; rintro e w1 ⟨v1, rfl, ho1, hc1, hb1⟩))
      have Ho1 := hide (ho1.mono hb0.size)
      have Hc1 := hide hc1
      have Hb1 := hide (hb0.trans (hb1.mono hb0.size))
      clear ho hb0 ho1 hc1 hb1 trimS eS dS hlR
      go_wp2_with fail
      go_loopw [9, 10] (fun lv hv wx => DmIn w1 Y S lv hv wx) (fun lv hv _ => (intOf hv - intOf lv).toNat)
      case atStart => exact ⟨0, 10000, by omega, by omega, rfl, rfl, hide (by simp), hSY, Below.refl _ _⟩
      case round =>
        obtain ⟨lo, hi', hlh, hhb, rfl, rfl, hlo, hhi, hb2⟩ := hrel
        have Hb2 := hide hb2
        have hb12 : Hid (Below w.heap.size w wr) := hide (Hbel.out.trans ((Hb1.out.trans (hb2.mono Hb1.out.size)).mono Hbel.out.size))
        by_cases hgap : lo + 1 < hi'
        · obtain ⟨mid, hmid⟩ : ∃ mid, (lo + hi') / 2 = mid := ⟨_, rfl⟩
          have em : Int.tdiv ((lo : Int) + (hi' : Int)) 2 = (mid : Int) := by rw [← hmid]; exact (Int.ofNat_tdiv (lo + hi') 2).symm
          have hm1 : lo < mid := by omega
          have hm2 : mid < hi' := by omega
          have gap : (1 : Int) < (hi' : Int) - (lo : Int) := by omega
          have mulc : Hid (Calls Tryd.prog 60 #[bv, .slice (some ⟨wr.heap.size, 0, none⟩) 1 1] (wr.alloc (.cells #[.int .i64 (mid : Int)] 3)) (fun e w' => ∃ r, e = .returned r ∧ Ic w' r (Y * mid) (M + 1) ∧ Ic w' v1 S (M + 1) ∧ Below w1.heap.size w1 w')) := hide (by
            have ha : Below wr.heap.size wr (wr.alloc (.cells #[.int .i64 (mid : Int)] 3)) := (Below.refl _ _).alloc (Nat.le_refl _) _
            have h1 := HB.out.step (hb12.out.trans (ha.mono hb12.out.size))
            have h2 := iw_one wr 3 (x := mid) (by omega)
            refine (imul h1 h2 (by omega) (by omega)).mono fun e w' ⟨r, he, _, hc, hb⟩ => ⟨r, he, hc, ?_, ?_⟩
            · exact ((Hc1.out.step hb2).step ha).step hb
            · exact (hb2.trans (ha.mono hb2.size)).trans (hb.mono (Nat.le_trans hb2.size ha.size)))
          obtain ⟨s, hs⟩ : ∃ s, Hid (cmpN (Y * mid) S = s) := ⟨_, hide rfl⟩
          have cmpc : Hid (∀ r w', Ic w' r (Y * mid) (M + 1) → Ic w' v1 S (M + 1) → Calls Tryd.prog 63 #[r, v1] w' fun e w2 => e = .returned (.int .i64 s) ∧ w' = w2) := hide (by
            intro r w' h1 h2
            rw [← hs.out]
            exact icmp h1.iw h2.iw (by omega) (by omega))
          have hcase : (decide (s ≤ 0) = true ∧ Hid (mid * Y ≤ S)) ∨ (decide (s ≤ 0) = false ∧ Hid (S < mid * Y)) := by
            have h0 := hs.out
            rcases Nat.lt_trichotomy (Y * mid) S with h | h | h
            · rw [cmpN_lt h] at h0; exact .inl ⟨decide_eq_true (by omega), hide (by rw [Nat.mul_comm]; omega)⟩
            · rw [h, cmpN_eq] at h0; exact .inl ⟨decide_eq_true (by omega), hide (by rw [Nat.mul_comm]; omega)⟩
            · rw [cmpN_gt h] at h0; exact .inr ⟨decide_eq_false (by omega), hide (by rw [Nat.mul_comm]; omega)⟩
          clear hs hmid hb2
          rcases hcase with ⟨hd, hle⟩ | ⟨hd, hle⟩
          all_goals
            go_wp2_with (first
              | (go_at_call 60; refine mulc.out.mono ?_; rintro e w2 ⟨r, rfl, hcr, hc1, hb3⟩)
              | (go_at_call 63; refine (cmpc.out _ _ hcr hc1).mono ?_; rintro e w3 ⟨rfl, rfl⟩))
            go_roundw
            case rel => first | exact ⟨mid, hi', hm2, hhb, rfl, rfl, hle, hhi, hb3⟩ | exact ⟨lo, mid, hm1, by omega, rfl, rfl, hlo, hle, hb3⟩
            case measure => simp [intOf]; omega
        · obtain rfl : hi' = lo + 1 := by omega
          have gap : decide ((1 : Int) < (lo : Int) + 1 - (lo : Int)) = false := decide_eq_false (by omega)
          have hlo4 : lo < 10000 := by omega
          have hrow2 := Hrow.out.below (Hb1.out.trans (hb2.mono Hb1.out.size)) Hrow.out.lt
          have hjl : j < (List.replicate (j + 1) 0 ++ qs).length := by simp; omega
          obtain ⟨z, hz⟩ : ∃ z : Nat, wr.cell? ⟨w.heap.size, j, none⟩ = some (.int .i64 (z : Int)) := ⟨_, by have h := hrow2.cell hjl; rw [Nat.zero_add] at h; exact h⟩
          have hfr := hrow2.frozen j
          have hst := hide (hrow2.set_ hjl lo)
          have hwr : w.heap.size < wo.heap.size := Hrow.out.lt
          obtain ⟨wy, hwy⟩ : ∃ wy, Hid (wr.setCell ⟨w.heap.size, j, none⟩ (.int .i64 (lo : Int)) = wy) := ⟨_, hide rfl⟩
          have hsy : Hid (wy.heap.size = wr.heap.size) := hide (by rw [← hwy.out]; simp [World.setCell])
          have hby : Hid (Below w.heap.size w wy) := hide (by rw [← hwy.out]; exact hb12.out.setCell (Nat.le_refl _) _)
          have ho1y : Hid (Own .i64 3 wy wo.heap.size v1 (cn 10000 S)) := hide (by
            have h := Own.setFar (Ho1.out.below hb2 (Nat.le_refl _)) (p := ⟨w.heap.size, j, none⟩) hwr (.int .i64 (lo : Int))
            rw [hwy.out] at h
            exact h)
          have hrowy : Hid (Row .i64 3 wy w.heap.size 0 (madeCells #[.int .i64 0] n) (List.replicate j 0 ++ lo :: qs)) := hide (by
            have h := hst.out
            rw [Nat.zero_add, hwy.out, fill_back] at h
            exact h)
          have hc1y := Ic.of ho1y.out hSM.out
          have mulc : Hid (Calls Tryd.prog 60 #[bv, .slice (some ⟨wr.heap.size, 0, none⟩) 1 1] ((wr.setCell ⟨w.heap.size, j, none⟩ (.int .i64 (lo : Int))).alloc (.cells #[.int .i64 (lo : Int)] 3)) (fun e w' => ∃ r, e = .returned r ∧ Ic w' r (Y * lo) (M + 1) ∧ Below wy.heap.size wy w')) := hide (by
            rw [← hsy.out, hwy.out]
            have ha : Below wy.heap.size wy (wy.alloc (.cells #[.int .i64 (lo : Int)] 3)) := (Below.refl _ _).alloc (Nat.le_refl _) _
            have h1 := HB.out.step (hby.out.trans (ha.mono hby.out.size))
            have h2 := iw_one wy 3 (x := lo) hlo4
            exact (imul h1 h2 (by omega) (by omega)).mono fun e w' ⟨r, he, _, hc, hb⟩ => ⟨r, he, hc, ha.trans (hb.mono ha.size)⟩)
          have e1 := rdiv_step (lo := lo) ex.out hv.out hS.out
          have subc : Hid (∀ r w', Ic w' r (Y * lo) (M + 1) → Below wy.heap.size wy w' → Calls Tryd.prog 64 #[v1, r] w' fun e w2 => ∃ v, e = .returned v ∧ DmOut 3 w n Y M xs v (.int .i64 ((j : Int) - 1)) w2) := hide (by
            intro r w' h1 h2
            have hle : Y * lo ≤ S := by rw [Nat.mul_comm]; exact hlo.out
            refine (isub (hc1y.step h2).iw h1.iw (by omega) (by omega) hle).mono fun e w2 ⟨v, he, ho, _, hb⟩ => ⟨v, he, j, S - Y * lo, lo :: qs, by omega, rfl, ?_, Dg.cons hlo4 dq, ?_, ?_, ?_, ?_, ?_⟩
            · exact hide (by have := hql.out; simp only [List.length_cons]; omega)
            · refine hide ?_
              simp only [vl]
              rw [Nat.mul_comm lo Y] at e1
              omega
            · have h9 := hhi.out
              rw [Nat.add_mul, Nat.one_mul, Nat.mul_comm] at h9
              exact hide (by omega)
            · exact ho.mono (by have := h2.size; have := hsy.out; have := hb2.size; have := Hb1.out.size; omega)
            · have hw : w.heap.size < wy.heap.size := by have := hsy.out; have := hb2.size; have := Hb1.out.size; omega
              exact ((hrowy.out.below h2 hw).below hb (Nat.lt_of_lt_of_le hw h2.size))
            · exact (hby.out.trans (h2.mono hby.out.size)).trans (hb.mono (Nat.le_trans hby.out.size h2.size)))
          clear hrow2 hst hc1y e1 hb2 hlo hhi hSY ex hS hv hql dq hjl
          go_wp2_with (first
            | (go_at_call 60; refine mulc.out.mono ?_; rintro e w2 ⟨r, rfl, hcr, hb3⟩)
            | (go_at_call 64; refine (subc.out _ _ hcr hb3).mono ?_; rintro e w3 ⟨v, rfl, fin⟩))
          go_roundw
          case rel => exact fin
          case measure => simp [intOf]
end Go.Proofs.YtkonakjchimniaaDoor
