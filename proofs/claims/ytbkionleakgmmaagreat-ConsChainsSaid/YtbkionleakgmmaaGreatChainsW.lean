/-
  The walk of ConsChains: true.
-/
import Derived.Test.YtbkionleakgmmaaGreatBundleN


namespace Go.Proofs.YtbkionleakgmmaaGreat
open Go.RowKit Go.Proofs.YtbkionleakgmmaaGreat.Num
set_option linter.unusedVariables false
set_option linter.unusedSimpArgs false
set_option maxRecDepth 100000

theorem lrk3 {W : World} {a b c : Kx} {L : Nat} (ha : Kv W a L) (hb : Kv W b L) (hc : Kv W c L) {g : Nat} (hg : W.heap.size = g) : Kl (W.alloc (.cells #[.int .i64 a.s, sv a.v, .bool a.x.s, sv a.x.u, sv a.x.t, .int .i64 b.s, sv b.v, .bool b.x.s, sv b.x.u, sv b.x.t, .int .i64 c.s, sv c.v, .bool c.x.s, sv c.x.u, sv c.x.t] 66)) (.slice (some ⟨g, 0, none⟩) 3 3) [a, b, c] L := by
  subst hg
  exact ⟨(Ow.lit (B := W.heap.size) ek_len W 66 [a, b, c] _ rfl (Nat.le_refl _) (by simp [maxLen])).rl ek_len, fun k hk => by
    simp at hk
    rcases hk with rfl | rfl | rfl
    · exact ha.step (alloc_below _ _)
    · exact hb.step (alloc_below _ _)
    · exact hc.step (alloc_below _ _)⟩
set_option maxHeartbeats 16000000 in
theorem chains_true (w : World) (a b c : Kx) (ha : Kv w a 17592186043904) (hb : Kv w b 17592186043904) (hc : Kv w c 17592186043904) :
    Calls Tryz.prog 12 #[kx a, kx b, kx c] w fun e w' => e = .returned (.bool true) ∧ Below w.heap.size w w' := by
  have b3 : Below w.heap.size w (((w.alloc (kbox a)).alloc (kbox b)).alloc (kbox c)) := (((Below.refl _ _).alloc (Nat.le_refl _) _).alloc (by simp) _).alloc (by simp; omega) _
  have PA := hide (show Kq (((w.alloc (kbox a)).alloc (kbox b)).alloc (kbox c)) w.heap.size a from ((Kq.new w a).step (alloc_below _ _)).step (alloc_below _ _))
  have PB := hide (show Kq (((w.alloc (kbox a)).alloc (kbox b)).alloc (kbox c)) (w.heap.size + 1) b by
    have h := (Kq.new (w.alloc (kbox a)) b).step (alloc_below _ (kbox c))
    simpa using h)
  have PC := hide (show Kq (((w.alloc (kbox a)).alloc (kbox b)).alloc (kbox c)) (w.heap.size + 1 + 1) c by
    have h := Kq.new ((w.alloc (kbox a)).alloc (kbox b)) c
    simpa using h)
  have HA := hide (ha.step b3)
  have HB := hide (hb.step b3)
  have HC := hide (hc.step b3)
  have B := hide b3
  clear ha hb hc b3
  go_enter Tryz.func12, Tryz.ntmps12
  go_wp2_with fail
  generalize (((w.alloc (kbox a)).alloc (kbox b)).alloc (kbox c)) = w0 at *
  refine (kspeaks_true _).mono ?_
  rintro e wx ⟨rfl, bx⟩
  replace PA := hide (PA.out.step bx)
  replace PB := hide (PB.out.step bx)
  replace PC := hide (PC.out.step bx)
  replace HA := hide (HA.out.step bx)
  replace HB := hide (HB.out.step bx)
  replace HC := hide (HC.out.step bx)
  replace B := hide (Below.step B.out B.out.size bx)

  clear bx
  obtain ⟨p0, p1, p2, p3, p4⟩ := PA.out.all
  obtain ⟨q0, q1, q2, q3, q4⟩ := PB.out.all
  obtain ⟨r0, r1, r2, r3, r4⟩ := PC.out.all

  have al := alloc_below wx (.cells #[.int .i64 a.s, sv a.v, .bool a.x.s, sv a.x.u, sv a.x.t, .int .i64 b.s, sv b.v, .bool b.x.s, sv b.x.u, sv b.x.t, .int .i64 c.s, sv c.v, .bool c.x.s, sv c.x.u, sv c.x.t] 66)
  have KL := hide (lrk3 (g := wx.heap.size) HA.out HB.out HC.out rfl)
  have bx := al
  replace PA := hide (PA.out.step bx)
  replace PB := hide (PB.out.step bx)
  replace PC := hide (PC.out.step bx)
  replace HA := hide (HA.out.step bx)
  replace HB := hide (HB.out.step bx)
  replace HC := hide (HC.out.step bx)
  replace B := hide (Below.step B.out B.out.size bx)

  clear al bx
  go_wp2_with fail
  clear p0 p1 p2 p3 p4 q0 q1 q2 q3 q4 r0 r1 r2 r3 r4

  generalize (wx.alloc (.cells #[.int .i64 a.s, sv a.v, .bool a.x.s, sv a.x.u, sv a.x.t, .int .i64 b.s, sv b.v, .bool b.x.s, sv b.x.u, sv b.x.t, .int .i64 c.s, sv c.v, .bool c.x.s, sv c.x.u, sv c.x.t] 66)) = w2 at *
  generalize wx.heap.size = gl at *
  refine (kgreat_c KL.out (by omega)).mono ?_
  rintro e w3 ⟨bx, o, rfl, ho⟩
  have HO := hide ho
  replace PA := hide (PA.out.step bx)
  replace PB := hide (PB.out.step bx)
  replace PC := hide (PC.out.step bx)
  replace HA := hide (HA.out.step bx)
  replace HB := hide (HB.out.step bx)
  replace HC := hide (HC.out.step bx)
  replace B := hide (Below.step B.out B.out.size bx)

  clear ho bx KL
  cases o
  case true =>
    go_wp2_with fail
    go_ret
    exact ⟨rfl, B.out⟩
  have OA := hide ((HO.out rfl).2 a (by simp))
  have OB := hide ((HO.out rfl).2 b (by simp))
  have OC := hide ((HO.out rfl).2 c (by simp))
  replace HA := hide (HA.out.tight OA.out)
  replace HB := hide (HB.out.tight OB.out)
  replace HC := hide (HC.out.tight OC.out)
  clear HO
  obtain ⟨p0, p1, p2, p3, p4⟩ := PA.out.all
  obtain ⟨q0, q1, q2, q3, q4⟩ := PB.out.all
  obtain ⟨r0, r1, r2, r3, r4⟩ := PC.out.all
  go_wp2_with fail
  refine (kdom_c HA.out HB.out (by have := OA.out.1; omega) (by have := OB.out.1; omega) (by omega) (by omega) (by omega) (by omega)).mono ?_
  rintro e wx ⟨⟨o, rfl, ho⟩, bx⟩
  have D1 := hide ho
  replace PA := hide (PA.out.step bx)
  replace PB := hide (PB.out.step bx)
  replace PC := hide (PC.out.step bx)
  replace HA := hide (HA.out.step bx)
  replace HB := hide (HB.out.step bx)
  replace HC := hide (HC.out.step bx)
  replace B := hide (Below.step B.out B.out.size bx)
  clear ho bx
  clear p0 p1 p2 p3 p4 q0 q1 q2 q3 q4 r0 r1 r2 r3 r4
  generalize wx = wq at *
  obtain ⟨p0, p1, p2, p3, p4⟩ := PA.out.all
  obtain ⟨q0, q1, q2, q3, q4⟩ := PB.out.all
  obtain ⟨r0, r1, r2, r3, r4⟩ := PC.out.all
  cases o
  case false =>
    have dr := (Below.refl wq.heap.size wq).drew
    have bx := dr
    replace PA := hide (PA.out.step bx)
    replace PB := hide (PB.out.step bx)
    replace PC := hide (PC.out.step bx)
    replace HA := hide (HA.out.step bx)
    replace HB := hide (HB.out.step bx)
    replace HC := hide (HC.out.step bx)
    replace B := hide (Below.step B.out B.out.size bx)
    clear dr bx
    clear p0 p1 p2 p3 p4 q0 q1 q2 q3 q4 r0 r1 r2 r3 r4
    go_wp2_with fail
    go_region_held3 (fun W => W.cell? ⟨w.heap.size, 0, none⟩ = some (.int .i64 a.s) ∧ W.cell? ⟨w.heap.size, 1, none⟩ = some (sv a.v) ∧ W.cell? ⟨w.heap.size, 2, none⟩ = some (.bool a.x.s) ∧ W.cell? ⟨w.heap.size, 3, none⟩ = some (sv a.x.u) ∧ W.cell? ⟨w.heap.size, 4, none⟩ = some (sv a.x.t))
      (with_reducible exact PA.out.all)
      (first
        | (go_at_call 65; refine Calls.mono (kdom_c HA.out HA.out (by have := OA.out.1; omega) (by have := OA.out.1; omega) (by omega) (by omega) (by omega) (by omega)) ?_; rintro e wx ⟨⟨o1, rfl, ho1⟩, bx⟩; have E1 := hide ho1; replace PA := hide (PA.out.step bx); replace B := hide (Below.step B.out B.out.size bx); clear ho1 bx)
        | (go_at_call 70; refine Calls.mono (sense_c a.s _) ?_; rintro e wy ⟨⟨o2, rfl, ho2⟩, rfl⟩; have E2 := hide ho2; clear ho2))
    all_goals
      obtain rfl : o1 = o2 := by
        have h : o1 = true ↔ o2 = true := by rw [E1.out, E2.out]; exact domi_self
        cases o1 <;> cases o2 <;> simp_all
      clear E1 E2
      cases o1
      · go_wp2_with fail
        go_ret
        exact ⟨rfl, B.out⟩
      · go_wp2_with fail
        go_ret
        exact ⟨rfl, B.out⟩

  go_wp2_with fail
  refine (kdom_c HB.out HC.out (by have := OB.out.1; omega) (by have := OC.out.1; omega) (by omega) (by omega) (by omega) (by omega)).mono ?_
  rintro e wx ⟨⟨o, rfl, ho⟩, bx⟩
  have D2 := hide ho
  replace PA := hide (PA.out.step bx)
  replace PB := hide (PB.out.step bx)
  replace PC := hide (PC.out.step bx)
  replace HA := hide (HA.out.step bx)
  replace HB := hide (HB.out.step bx)
  replace HC := hide (HC.out.step bx)
  replace B := hide (Below.step B.out B.out.size bx)
  clear ho bx
  clear p0 p1 p2 p3 p4 q0 q1 q2 q3 q4 r0 r1 r2 r3 r4
  generalize wx = wq at *
  obtain ⟨p0, p1, p2, p3, p4⟩ := PA.out.all
  obtain ⟨q0, q1, q2, q3, q4⟩ := PB.out.all
  obtain ⟨r0, r1, r2, r3, r4⟩ := PC.out.all
  cases o
  case false =>
    have dr := (Below.refl wq.heap.size wq).drew
    have bx := dr
    replace PA := hide (PA.out.step bx)
    replace PB := hide (PB.out.step bx)
    replace PC := hide (PC.out.step bx)
    replace HA := hide (HA.out.step bx)
    replace HB := hide (HB.out.step bx)
    replace HC := hide (HC.out.step bx)
    replace B := hide (Below.step B.out B.out.size bx)
    clear dr bx
    clear p0 p1 p2 p3 p4 q0 q1 q2 q3 q4 r0 r1 r2 r3 r4
    go_wp2_with fail
    go_region_held3 (fun W => W.cell? ⟨w.heap.size, 0, none⟩ = some (.int .i64 a.s) ∧ W.cell? ⟨w.heap.size, 1, none⟩ = some (sv a.v) ∧ W.cell? ⟨w.heap.size, 2, none⟩ = some (.bool a.x.s) ∧ W.cell? ⟨w.heap.size, 3, none⟩ = some (sv a.x.u) ∧ W.cell? ⟨w.heap.size, 4, none⟩ = some (sv a.x.t))
      (with_reducible exact PA.out.all)
      (first
        | (go_at_call 65; refine Calls.mono (kdom_c HA.out HA.out (by have := OA.out.1; omega) (by have := OA.out.1; omega) (by omega) (by omega) (by omega) (by omega)) ?_; rintro e wx ⟨⟨o1, rfl, ho1⟩, bx⟩; have E1 := hide ho1; replace PA := hide (PA.out.step bx); replace B := hide (Below.step B.out B.out.size bx); clear ho1 bx)
        | (go_at_call 70; refine Calls.mono (sense_c a.s _) ?_; rintro e wy ⟨⟨o2, rfl, ho2⟩, rfl⟩; have E2 := hide ho2; clear ho2))
    all_goals
      obtain rfl : o1 = o2 := by
        have h : o1 = true ↔ o2 = true := by rw [E1.out, E2.out]; exact domi_self
        cases o1 <;> cases o2 <;> simp_all
      clear E1 E2
      cases o1
      · go_wp2_with fail
        go_ret
        exact ⟨rfl, B.out⟩
      · go_wp2_with fail
        go_ret
        exact ⟨rfl, B.out⟩

  go_wp2_with fail
  refine (kdom_c HA.out HC.out (by have := OA.out.1; omega) (by have := OC.out.1; omega) (by omega) (by omega) (by omega) (by omega)).mono ?_
  rintro e wx ⟨⟨o, rfl, ho⟩, bx⟩
  have D3 := hide ho
  replace PA := hide (PA.out.step bx)
  replace PB := hide (PB.out.step bx)
  replace PC := hide (PC.out.step bx)
  replace HA := hide (HA.out.step bx)
  replace HB := hide (HB.out.step bx)
  replace HC := hide (HC.out.step bx)
  replace B := hide (Below.step B.out B.out.size bx)
  clear ho bx
  clear p0 p1 p2 p3 p4 q0 q1 q2 q3 q4 r0 r1 r2 r3 r4
  generalize wx = wq at *
  obtain ⟨p0, p1, p2, p3, p4⟩ := PA.out.all
  obtain ⟨q0, q1, q2, q3, q4⟩ := PB.out.all
  obtain ⟨r0, r1, r2, r3, r4⟩ := PC.out.all
  cases o
  case false => exact absurd (D3.out.2 (domi_trans (D1.out.1 (by simp)) (D2.out.1 (by simp)))) (by simp)
  have dr := (Below.refl wq.heap.size wq).drew
  have bx := dr
  replace PA := hide (PA.out.step bx)
  replace PB := hide (PB.out.step bx)
  replace PC := hide (PC.out.step bx)
  replace HA := hide (HA.out.step bx)
  replace HB := hide (HB.out.step bx)
  replace HC := hide (HC.out.step bx)
  replace B := hide (Below.step B.out B.out.size bx)
  clear dr bx
  clear p0 p1 p2 p3 p4 q0 q1 q2 q3 q4 r0 r1 r2 r3 r4
  go_wp2_with fail
  go_region_held3 (fun W => W.cell? ⟨w.heap.size, 0, none⟩ = some (.int .i64 a.s) ∧ W.cell? ⟨w.heap.size, 1, none⟩ = some (sv a.v) ∧ W.cell? ⟨w.heap.size, 2, none⟩ = some (.bool a.x.s) ∧ W.cell? ⟨w.heap.size, 3, none⟩ = some (sv a.x.u) ∧ W.cell? ⟨w.heap.size, 4, none⟩ = some (sv a.x.t))
    (with_reducible exact PA.out.all)
    (first
      | (go_at_call 65; refine Calls.mono (kdom_c HA.out HA.out (by have := OA.out.1; omega) (by have := OA.out.1; omega) (by omega) (by omega) (by omega) (by omega)) ?_; rintro e wx ⟨⟨o1, rfl, ho1⟩, bx⟩; have E1 := hide ho1; replace PA := hide (PA.out.step bx); replace B := hide (Below.step B.out B.out.size bx); clear ho1 bx)
      | (go_at_call 70; refine Calls.mono (sense_c a.s _) ?_; rintro e wy ⟨⟨o2, rfl, ho2⟩, rfl⟩; have E2 := hide ho2; clear ho2))
  all_goals
    obtain rfl : o1 = o2 := by
      have h : o1 = true ↔ o2 = true := by rw [E1.out, E2.out]; exact domi_self
      cases o1 <;> cases o2 <;> simp_all
    clear E1 E2
    cases o1
    · go_wp2_with fail
      go_ret
      exact ⟨rfl, B.out⟩
    · go_wp2_with fail
      go_ret
      exact ⟨rfl, B.out⟩

end Go.Proofs.YtbkionleakgmmaaGreat
