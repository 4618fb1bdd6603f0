
/-
  The document's Same for vectors; small whole numbers as fractions; the examples of chapter 5.
-/
import Derived.Test.YtieicmcbdhaipaaGreatVec8
import Derived.Test.YtieicmcbdhaipaaGreatVec7
import Derived.Test.YtieicmcbdhaipaaGreatRall


namespace Go.Proofs.YtieicmcbdhaipaaGreat
open Go.RowKit Go.Proofs.YtieicmcbdhaipaaGreat.Num
set_option linter.unusedVariables false
set_option linter.unusedSimpArgs false
set_option maxRecDepth 100000

/-- The slice value reads as these terms, each in its one form. -/
def Tc (W : World) (v : Value) (d : List Tx) (L : Nat) : Prop := Lr et 4 W v d ∧ ∀ x ∈ d, Rc W (rx x.x) x.x.r L
theorem Tc.step {W W' : World} {v : Value} {d : List Tx} {L : Nat} (h : Tc W v d L) (hb : Below W.heap.size W W') : Tc W' v d L := ⟨h.1.step hb, fun x hx => (h.2 x hx).step hb⟩
theorem Tg.tc {W : World} {B : Nat} {v : Value} {d : List Tx} {L : Nat} (h : Tg W B v d L) : Tc W v d L := ⟨h.1.rl et_len, fun x hx => (h.2 x hx).1⟩
theorem Tc.tv {W : World} {v : Value} {d : List Tx} {L : Nat} (h : Tc W v d L) : Tv W v d L := ⟨h.1, fun x hx => (h.2 x hx).ra⟩
theorem tms_at {d f : List Tx} (h : tms d = tms f) {k : Nat} {x y : Tx} (hx : d[k]? = some x) (hy : f[k]? = some y) : x.c = y.c ∧ x.x.r = y.x.r := by
  have e : (tms d)[k]? = (tms f)[k]? := by rw [h]
  unfold tms at e
  rw [List.getElem?_map, List.getElem?_map, hx, hy] at e
  simp [tm] at e
  exact e

set_option maxHeartbeats 8000000 in
theorem same_t {w : World} {u v : Value} {d f : List Tx} {L M : Nat} (hu : Tc w u d L) (hv : Tc w v f M) (he : tms d = tms f) :
    Calls Tryz.prog 43 #[u, v] w fun e w' => e = .returned (.bool true) ∧ Below w.heap.size w w' := by
  obtain ⟨A, c, e1, hc1, hc2, hc3⟩ := id hu.1
  obtain ⟨D, m, e2, hd1, hd2, hd3⟩ := id hv.1
  have hl : f.length = d.length := by have := congrArg List.length he; simpa [tms] using this.symm
  obtain ⟨n, hlen⟩ : ∃ n, n = d.length := ⟨_, rfl⟩
  rw [hl] at e2 hd1
  rw [← hlen] at e1 e2 hc1 hd1
  subst e1 e2
  have HU := hide hu
  have HV := hide hv
  have HE := hide he
  have HN := hide hlen
  have HL := hide hl
  unfold maxLen at hc2
  have t0 : ((n : Int) != (n : Int)) = false := by simp
  clear hu hv hc3 hd3 he hl hlen
  go_enter Tryz.func43, Tryz.ntmps43
  go_wp2_with fail
  go_loopw [5] (fun iv wr => ∃ k : Nat, k ≤ n ∧ iv = .int .i64 (k : Int) ∧ Hid (Below w.heap.size w wr)) (fun iv _ => n - (intOf iv).toNat)
  case atStart => exact ⟨0, Nat.zero_le _, rfl, hide (Below.refl _ _)⟩
  case round =>
    obtain ⟨k, hk, rfl, B⟩ := hrel
    by_cases hlt : k < n
    · obtain ⟨x, hx⟩ := len_of (d := d) (k := k) (by rw [← HN.out]; exact hlt)
      obtain ⟨y, hy⟩ := len_of (d := f) (k := k) (by rw [HL.out, ← HN.out]; exact hlt)
      obtain ⟨ec, er⟩ := tms_at HE.out hx hy
      have b8 := (Below.refl wr.heap.size wr).drew
      have B8 := hide (Below.step B.out B.out.size b8)
      have RX := hide (((HU.out.2 x (List.mem_of_getElem? hx)).step B.out).step b8)
      have RY := hide (show Rc wr.drew (rx y.x) x.x.r M by rw [er]; exact ((HV.out.2 y (List.mem_of_getElem? hy)).step B.out).step b8)
      obtain ⟨b, off, rfl, hb, hc⟩ := ((HU.out.1.step B.out).step b8).get hx
      obtain ⟨b', off', rfl, hb', hc'⟩ := ((HV.out.1.step B.out).step b8).get hy
      have c0 := hc 0 _ rfl
      have c1 := hc 1 _ rfl
      have c2 := hc 2 _ rfl
      have c3 := hc 3 _ rfl
      have e0 := hc' 0 _ rfl
      have e1 := hc' 1 _ rfl
      have e2 := hc' 2 _ rfl
      have e3 := hc' 3 _ rfl
      rw [Nat.add_zero] at c0 e0
      rw [← ec] at e0
      have l0 : (0 : Int) ≤ (k : Int) := by omega
      have l1 : (k : Int) < (n : Int) := by omega
      have t1 : (x.c != x.c) = false := by simp
      have P := hide (And.intro c0 (And.intro c1 (And.intro c2 (And.intro c3 (And.intro e0 (And.intro e1 (And.intro e2 e3)))))))
      clear hc hc' hb hb' hx hy ec er b8
      go_wp2_with fail
      go_region_held3 (fun W => W.cell? ⟨b, off + k * 4, none⟩ = some (.int .i64 x.c) ∧ W.cell? ⟨b, off + k * 4 + 1, none⟩ = some (.bool x.x.s) ∧ W.cell? ⟨b, off + k * 4 + 2, none⟩ = some (sv x.x.u) ∧ W.cell? ⟨b, off + k * 4 + 3, none⟩ = some (sv x.x.t) ∧ W.cell? ⟨b', off' + k * 4, none⟩ = some (.int .i64 x.c) ∧ W.cell? ⟨b', off' + k * 4 + 1, none⟩ = some (.bool y.x.s) ∧ W.cell? ⟨b', off' + k * 4 + 2, none⟩ = some (sv y.x.u) ∧ W.cell? ⟨b', off' + k * 4 + 3, none⟩ = some (sv y.x.t))
        (exact P.out)
        (first
          | (go_at_call 37; refine Calls.mono (rsame_c RX.out RY.out) ?_; rintro e wx ⟨rfl, bx⟩; replace P := hide (And.intro (cell_keep P.out.1 bx) (And.intro (cell_keep P.out.2.1 bx) (And.intro (cell_keep P.out.2.2.1 bx) (And.intro (cell_keep P.out.2.2.2.1 bx) (And.intro (cell_keep P.out.2.2.2.2.1 bx) (And.intro (cell_keep P.out.2.2.2.2.2.1 bx) (And.intro (cell_keep P.out.2.2.2.2.2.2.1 bx) (cell_keep P.out.2.2.2.2.2.2.2 bx)))))))); have B9 := hide (Below.step B8.out B8.out.size bx)))
      all_goals
        clear P c0 c1 c2 c3 e0 e1 e2 e3
        go_wp2_with fail
        exact ⟨⟨k + 1, by omega, by go_num, B9⟩, by simp [intOf]; omega⟩
    · obtain rfl : k = n := by omega
      go_wp2_with fail
      go_ret
      exact ⟨rfl, B.out⟩

theorem RRet.rx {w : World} {r : Rat} {L : Nat} {e : Ending} {w' : World} (h : RRet w r L e w') : ∃ x : Rx, e = .returned (rx x) ∧ x.r = r ∧ Rc w' (rx x) x.r L ∧ Below w.heap.size w w' := by
  obtain ⟨v, rfl, hc, hb⟩ := h
  obtain ⟨s, A, n, c, D, m, d, rfl, hc⟩ := hc.parts
  exact ⟨⟨s, (A, n, c), (D, m, d), r⟩, rfl, rfl, hc, hb⟩

set_option maxHeartbeats 4000000 in
theorem rqsmall_any (w : World) (z : Int) (h1 : -9223372036854775808 ≤ z) (h2 : z ≤ 9223372036854775807) :
    Calls Tryz.prog 77 #[.int .i64 z] w (RfRet w (z : Rat) 6) := by
  have b1 := (Below.refl w.heap.size w).alloc (Nat.le_refl _) fqblk
  have HB := hide b1
  have HZ := hide (Fb.new w)
  clear b1
  go_enter Tryz.func77, Tryz.ntmps77
  go_wp2_with fail
  refine (qsmall_any (w.alloc fqblk) z h1 h2).mono ?_
  rintro e w1 ⟨v, rfl, z1, bx⟩
  obtain ⟨s, x, A, n, c, rfl, hu, hz, -⟩ := z1.parts
  have B1 := hide (Below.step HB.out HB.out.size bx)
  have Z1 := hide (HZ.out.step bx)
  have b2 := (Below.refl w1.heap.size w1).alloc (Nat.le_refl _) (.cells #[.int .i64 1] 3)
  have B2 := hide (Below.step B1.out B1.out.size b2)
  have Z2 := hide (Z1.out.step b2)
  have LC := hide (lowest_any (s := s) (hu.step b2) (ic_one w1 (L := 6) (by omega)) (by omega) (by omega) (by omega))
  have hq : mkRat (zi s x) 1 = (z : Rat) := by rw [hz, Rat.mkRat_one]
  rw [hq] at LC
  clear bx hu hz b2 hq B1 Z1 HB HZ
  go_wp2_with fail
  refine LC.out.mono ?_
  rintro e w2 ⟨v, rfl, c1, b1⟩
  obtain ⟨sg, A1, n1, c1', D1, m1, d1, rfl, c2⟩ := c1.parts
  obtain ⟨k0, k1, k2, f0, f1, f2, fin⟩ := rf_put (w0 := w) c2 (Z2.out.step b1) (by omega) (Below.step B2.out B2.out.size b1)
  have F := hide fin
  clear fin LC b1 c1 c2 Z2 B2
  go_wp2_with fail
  exact bodyPost_ret (rfret rfl _ _ _ #[.bool sg, .slice A1 n1 c1', .slice D1 m1 d1] rfl rfl F.out.1) rfl F.out.2
end Go.Proofs.YtieicmcbdhaipaaGreat
