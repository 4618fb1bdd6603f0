/-
  Shared texts, one behind the other: Kcon7, Kcon8, Samx, Rcmp, Kref1, Kgreat.
-/
import Derived.Test.YtofmhfbbedalbaaGreatBundleM
import Derived.Test.YtofmhfbbedalbaaGreatVref5
import Derived.Test.YtofmhfbbedalbaaGreatBundleO
import Derived.Deep.DeepCutAuto
import Derived.Deep.CutBlock
import Derived.BigGuardPart
import Derived.Deep.QuietTactic
import Derived.BigQuiet
import Derived.Test.YtofmhfbbedalbaaGreatFl
import Derived.Test.YtofmhfbbedalbaaGreatBundleE
import Derived.Deep.RegionHeld3

namespace Go.Proofs.YtofmhfbbedalbaaGreat
open Go.RowKit Go.Proofs.YtofmhfbbedalbaaGreat.Num
set_option linter.unusedVariables false
set_option linter.unusedSimpArgs false
set_option maxRecDepth 100000
theorem ne_of_beq_false {a b : Bool} (h : (a == b) = false) : a ≠ b := by
  rintro rfl
  cases a <;> cases h
theorem rat_same (r q : Rat) : r = q ↔ (decide (r.num < 0) = decide (q.num < 0) ∧ cn Q r.num.natAbs = cn Q q.num.natAbs ∧ cn Q r.den = cn Q q.den) := by
  constructor
  · rintro rfl
    exact ⟨rfl, rfl, rfl⟩
  · rintro ⟨h1, h2, h3⟩
    have e2 := cn_inj Q_two h2
    have e3 := cn_inj Q_two h3
    have e1 : (r.num < 0) ↔ (q.num < 0) := by simpa using h1
    exact Rat.ext (by omega) e3
def Sm (d f : List Tx) (k : Nat) : Prop := ∀ j x y, j < k → d[j]? = some x → f[j]? = some y → x.c = y.c ∧ x.x.r = y.x.r
theorem Sm.zero (d f : List Tx) : Sm d f 0 := fun j x y h => by omega
theorem Sm.next {d f : List Tx} {k : Nat} {x y : Tx} (h : Sm d f k) (hx : d[k]? = some x) (hy : f[k]? = some y) (e1 : x.c = y.c) (e2 : x.x.r = y.x.r) : Sm d f (k + 1) := by
  intro j x' y' hj hx' hy'
  by_cases e : j = k
  · subst e
    rw [hx] at hx'; rw [hy] at hy'
    cases hx'; cases hy'
    exact ⟨e1, e2⟩
  · exact h j x' y' (by omega) hx' hy'
theorem Sm.done {d f : List Tx} {k : Nat} (h : Sm d f k) (hk : d.length ≤ k) (hl : d.length = f.length) : tms d = tms f := by
  refine List.ext_getElem? (fun j => ?_)
  unfold tms
  rw [List.getElem?_map, List.getElem?_map]
  by_cases hj : j < d.length
  · obtain ⟨x, hx⟩ := len_of hj
    obtain ⟨y, hy⟩ := len_of (d := f) (k := j) (by omega)
    have := h j x y (by omega) hx hy
    rw [hx, hy]
    simp [tm, this.1, this.2]
  · rw [List.getElem?_eq_none (by omega), List.getElem?_eq_none (by omega)]
theorem lsame_x {w : World} {u v : Value} {xs ys : List Nat} {L M : Nat} (hu : Lw w u xs L) (hv : Lw w v ys M) :
    Calls Tryz.prog 68 #[u, v] w fun e w' => (∃ b : Bool, e = .returned (.bool b) ∧ (b = true ↔ xs = ys)) ∧ Below w.heap.size w w' := by
  obtain ⟨A, n, c, rfl, hx, _, h1, h2, _⟩ := hu
  obtain ⟨D, m, d, rfl, hy, _, h3, h4, _⟩ := hv
  refine (same_any _ _ A D _ c _ d _ _ w hx hy (by omega) (by omega)).mono fun e w' ⟨he, m, hm⟩ => ⟨⟨_, he, by unfold sameB; simp⟩, ?_⟩
  rw [hm]
  exact below_drewN (Below.refl _ _) m
set_option maxHeartbeats 1000000 in
theorem zsame_x {w : World} {s t : Bool} {u v : Value} {xs ys : List Nat} {L M : Nat} (hu : Lw w u xs L) (hv : Lw w v ys M) :
    Calls Tryz.prog 67 #[zv s u, zv t v] w fun e w' => (∃ b : Bool, e = .returned (.bool b) ∧ (b = true ↔ s = t ∧ xs = ys)) ∧ Below w.heap.size w w' := by
  obtain ⟨A, n, c, rfl⟩ := hu.nw.slice
  obtain ⟨D, m, d, rfl⟩ := hv.nw.slice
  have a1 : Below w.heap.size w (w.alloc (zbox s (.slice A n c))) := (Below.refl _ _).alloc (Nat.le_refl _) _
  have a2 : Below w.heap.size w ((w.alloc (zbox s (.slice A n c))).alloc (zbox t (.slice D m d))) := a1.alloc (by simp) _
  have S := hide (lsame_x (hu.step a2) (hv.step a2))
  have HA := hide a2
  clear hu hv a1 a2
  go_enter Tryz.func67, Tryz.ntmps67
  by_cases hst : (s == t) = true
  · go_wp2_with (go_at_call 68; refine S.out.mono ?_; rintro e w1 ⟨⟨b9, rfl, hb9⟩, b1⟩)
    go_ret
    exact ⟨⟨_, rfl, by rw [hb9]; have := eq_of_beq hst; simp [this]⟩, HA.out.trans (b1.mono HA.out.size)⟩
  · have hst' : (s == t) = false := by simpa using hst
    clear hst
    go_wp2_with fail
    go_ret
    exact ⟨⟨_, rfl, by have := ne_of_beq_false hst'; simp [this]⟩, HA.out⟩
set_option maxHeartbeats 2000000 in
theorem rsame_x {w : World} {u v : Value} {r q : Rat} {L M : Nat} (hu : Rc w u r L) (hv : Rc w v q M) :
    Calls Tryz.prog 37 #[u, v] w fun e w' => (∃ b : Bool, e = .returned (.bool b) ∧ (b = true ↔ r = q)) ∧ Below w.heap.size w w' := by
  obtain ⟨u1, u2, rfl, a1, a2⟩ := hu
  obtain ⟨v1, v2, rfl, c1, c2⟩ := hv
  obtain ⟨A, n, c, rfl⟩ := a1.nw.slice
  obtain ⟨D, m, d, rfl⟩ := a2.nw.slice
  obtain ⟨F, k, f, rfl⟩ := c1.nw.slice
  obtain ⟨H, l, h, rfl⟩ := c2.nw.slice
  have E := hide (rat_same r q)
  generalize decide (r.num < 0) = s at *
  generalize decide (q.num < 0) = t at *
  obtain ⟨b2, ⟨p0, p1, p2⟩, q0, q1, q2⟩ := f_world0 w s t A D F H n c m d k f l h
  have b3 : Below w.heap.size w ((w.alloc (rbox s (.slice A n c) (.slice D m d))).alloc (rbox t (.slice F k f) (.slice H l h))) := ((Below.refl _ _).alloc (Nat.le_refl _) _).alloc (by simp) _
  have C1 := hide (zsame_x (s := s) (t := t) ((cw_lw a1).step b3) ((cw_lw c1).step b3))
  have N1 := hide ((cw_lw a2).step b3)
  have N2 := hide ((cw_lw c2).step b3)
  have B := hide b3
  have C : Hid (Fx ((w.alloc (rbox s (.slice A n c) (.slice D m d))).alloc (rbox t (.slice F k f) (.slice H l h))) w.heap.size s A n c D m d ∧ Fx ((w.alloc (rbox s (.slice A n c) (.slice D m d))).alloc (rbox t (.slice F k f) (.slice H l h))) (w.heap.size + 1) t F k f H l h) := hide ⟨⟨p0, p1, p2⟩, q0, q1, q2⟩
  clear b2 b3 a1 a2 c1 c2 p0 p1 p2 q0 q1 q2
  go_enter Tryz.func37, Tryz.ntmps37
  go_wp2_with fail
  refine C1.out.mono ?_
  rintro e w1 ⟨⟨b9, rfl, hb9⟩, b1⟩
  have H9 := hide hb9
  clear hb9
  obtain ⟨p0, p1, p2⟩ := C.out.1.step b1
  obtain ⟨q0, q1, q2⟩ := C.out.2.step b1
  have B1 := hide (Below.step B.out B.out.size b1)
  cases b9
  · clear C1 N1 N2 B C b1
    go_wp2_with fail
    go_ret
    exact ⟨⟨_, rfl, by rw [E.out]; constructor
                       · intro h; cases h
                       · intro h; exact H9.out.2 ⟨h.1, h.2.1⟩⟩, B1.out⟩
  · have C2 := hide (lsame_x (N1.out.step b1) (N2.out.step b1))
    clear C1 N1 N2 B C b1
    go_wp2_with fail
    refine C2.out.mono ?_
    rintro e w2 ⟨⟨b8, rfl, hb8⟩, b2⟩
    have H8 := hide hb8
    clear hb8
    have B2 := hide (Below.step B1.out B1.out.size b2)
    clear C2 B1 b2 p0 p1 p2 q0 q1 q2
    go_wp2_with fail
    go_ret
    exact ⟨⟨_, rfl, by rw [E.out, H8.out]; exact ⟨fun h => ⟨(H9.out.1 (by simp)).1, (H9.out.1 (by simp)).2, h⟩, fun h => h.2.2⟩⟩, B2.out⟩
set_option maxHeartbeats 8000000 in
theorem vsame_x {w : World} {u v : Value} {d f : List Tx} {L M : Nat} (hu : Tc w u d L) (hv : Tc w v f M) :
    Calls Tryz.prog 16 #[u, v] w fun e w' => (∃ b : Bool, e = .returned (.bool b) ∧ (b = true ↔ tms d = tms f)) ∧ Below w.heap.size w w' := by
  obtain ⟨A, c, e1, hc1, hc2, hc3⟩ := id hu.1
  obtain ⟨D, m, e2, hd1, hd2, hd3⟩ := id hv.1
  obtain ⟨n, hlen⟩ : ∃ n, n = d.length := ⟨_, rfl⟩
  obtain ⟨n', hlen'⟩ : ∃ n', n' = f.length := ⟨_, rfl⟩
  rw [← hlen] at e1 hc1
  rw [← hlen'] at e2 hd1
  subst e1 e2
  have HU := hide hu
  have HV := hide hv
  have HN := hide hlen
  have HL := hide hlen'
  unfold maxLen at hc2
  clear hu hv hc3 hd3 hlen hlen'
  go_enter Tryz.func16, Tryz.ntmps16
  by_cases hnn : n = n'
  case neg =>
    have t0 : ((n : Int) != (n' : Int)) = true := by simp; omega
    go_wp2_with fail
    go_ret
    exact ⟨⟨false, rfl, by
      constructor
      · intro h; cases h
      · intro h; have h1 := congrArg List.length h; rw [tms_len, tms_len, ← HN.out, ← HL.out] at h1; exact absurd h1 hnn⟩, Below.refl _ _⟩
  subst hnn
  have t0 : ((n : Int) != (n : Int)) = false := by simp
  go_wp2_with fail
  go_loopw [5] (fun iv wr => ∃ k : Nat, k ≤ n ∧ iv = .int .i64 (k : Int) ∧ Hid (Below w.heap.size w wr) ∧ Hid (Sm d f k)) (fun iv _ => n - (intOf iv).toNat)
  case atStart => exact ⟨0, Nat.zero_le _, rfl, hide (Below.refl _ _), hide (Sm.zero d f)⟩
  case round =>
    obtain ⟨k, hk, rfl, B, S⟩ := hrel
    by_cases hlt : k < n
    · obtain ⟨x, hx⟩ := len_of (d := d) (k := k) (by rw [← HN.out]; exact hlt)
      obtain ⟨y, hy⟩ := len_of (d := f) (k := k) (by rw [← HL.out]; exact hlt)
      have b8 := (Below.refl wr.heap.size wr).drew
      have B8 := hide (Below.step B.out B.out.size b8)
      have RX := hide (((HU.out.2 x (List.mem_of_getElem? hx)).step B.out).step b8)
      have RY := hide (((HV.out.2 y (List.mem_of_getElem? hy)).step B.out).step b8)
      obtain ⟨b, off, rfl, hb, hc⟩ := ((HU.out.1.step B.out).step b8).get hx
      obtain ⟨b', off', rfl, hb', hc'⟩ := ((HV.out.1.step B.out).step b8).get hy
      have c0 := hc 0 _ rfl
      have c1 := hc 1 _ rfl
      have c2 := hc 2 _ rfl
      have c3 := hc 3 _ rfl
      have e0 := hc' 0 _ rfl
      have e1 := hc' 1 _ rfl
      have e2 := hc' 2 _ rfl
      have e3 := hc' 3 _ rfl
      rw [Nat.add_zero] at c0 e0
      have l0 : (0 : Int) ≤ (k : Int) := by omega
      have l1 : (k : Int) < (n : Int) := by omega
      have P := hide (And.intro c0 (And.intro c1 (And.intro c2 (And.intro c3 (And.intro e0 (And.intro e1 (And.intro e2 e3)))))))
      have HX := hide hx
      have HY := hide hy
      clear hc hc' hb hb' hx hy b8
      by_cases hxy : x.c = y.c
      · have t1 : (x.c != y.c) = false := by simp [hxy]
        have XY := hide hxy
        clear hxy
        go_wp2_with fail
        go_region_held3 (fun W => W.cell? ⟨b, off + k * 4, none⟩ = some (.int .i64 x.c) ∧ W.cell? ⟨b, off + k * 4 + 1, none⟩ = some (.bool x.x.s) ∧ W.cell? ⟨b, off + k * 4 + 2, none⟩ = some (sv x.x.u) ∧ W.cell? ⟨b, off + k * 4 + 3, none⟩ = some (sv x.x.t) ∧ W.cell? ⟨b', off' + k * 4, none⟩ = some (.int .i64 y.c) ∧ W.cell? ⟨b', off' + k * 4 + 1, none⟩ = some (.bool y.x.s) ∧ W.cell? ⟨b', off' + k * 4 + 2, none⟩ = some (sv y.x.u) ∧ W.cell? ⟨b', off' + k * 4 + 3, none⟩ = some (sv y.x.t))
          (exact P.out)
          (first
            | (go_at_call 37; refine Calls.mono (rsame_x RX.out RY.out) ?_; rintro e wx ⟨⟨b9, rfl, hb9⟩, bx⟩; have H9 := hide hb9; clear hb9; replace P := hide (And.intro (cell_keep P.out.1 bx) (And.intro (cell_keep P.out.2.1 bx) (And.intro (cell_keep P.out.2.2.1 bx) (And.intro (cell_keep P.out.2.2.2.1 bx) (And.intro (cell_keep P.out.2.2.2.2.1 bx) (And.intro (cell_keep P.out.2.2.2.2.2.1 bx) (And.intro (cell_keep P.out.2.2.2.2.2.2.1 bx) (cell_keep P.out.2.2.2.2.2.2.2 bx)))))))); have B9 := hide (Below.step B8.out B8.out.size bx)))
        all_goals
          clear P c0 c1 c2 c3 e0 e1 e2 e3
          cases b9
          · go_wp2_with fail
            go_ret
            exact ⟨⟨false, rfl, by
              constructor
              · intro h; cases h
              · intro h; exact H9.out.2 (tms_at h HX.out HY.out).2⟩, B9.out⟩
          · go_wp2_with fail
            exact ⟨⟨k + 1, by omega, by go_num, B9, hide (S.out.next HX.out HY.out XY.out (H9.out.1 (by simp)))⟩, by simp [intOf]; omega⟩
      · have t1 : (x.c != y.c) = true := by simp [hxy]
        have XY := hide hxy
        clear hxy
        have c9 : wr.cell? ⟨b, off + k * 4, none⟩ = some (.int .i64 x.c) := c0
        have e9 : wr.cell? ⟨b', off' + k * 4, none⟩ = some (.int .i64 y.c) := e0
        clear P c0 c1 c2 c3 e0 e1 e2 e3
        go_wp2_with fail
        go_quiet (fail)
        have Z9 := hide (show Below w.heap.size w (wr.drewN nq) from below_drewN B.out nq)
        generalize wr.drewN nq = w9 at *
        go_wp2_with fail
        go_ret
        exact ⟨⟨false, rfl, by
          constructor
          · intro h; cases h
          · intro h; exact absurd (tms_at h HX.out HY.out).1 XY.out⟩, Z9.out⟩
    · obtain rfl : k = n := by omega
      go_wp2_with fail
      go_ret
      exact ⟨⟨true, rfl, by
        constructor
        · intro _; exact S.out.done (by rw [← HN.out]; exact Nat.le_refl _) (by rw [← HN.out, ← HL.out])
        · intro _; rfl⟩, B.out⟩
set_option maxHeartbeats 1000000 in
theorem qnegs_any {w : World} {v : Value} {z : Int} {L : Nat} (h : Qi w v z L) (hL : L ≤ 800000000000) :
  Calls Tryz.prog 73 #[v] w (QRet w (-z) L) := by
 obtain ⟨u, rfl, hc⟩ := h
 obtain ⟨A, n, c, rfl⟩ := hc.iw.slice
 obtain ⟨s, hs⟩ : ∃ s, decide (z < 0) = s := ⟨_, rfl⟩
 have hzz : Hid (zi (!s) z.natAbs = -z) := hide (by
  unfold zi
  by_cases h : z < 0
  ·rw [decide_eq_true h] at hs; subst hs; simp only [Bool.not_true, Bool.false_eq_true, if_false]; omega
  ·rw [decide_eq_false h] at hs; subst hs; simp only [Bool.not_false, if_true]; omega)
 rw [hs]
 have a1 : Below w.heap.size w (w.alloc (qbox s (.slice A n c))) := (Below.refl _ _).alloc (Nat.le_refl _) _
 have a2 : Below w.heap.size w ((w.alloc (qbox s (.slice A n c))).alloc qblk) := a1.alloc (by simp) _
 have hz : Qb ((w.alloc (qbox s (.slice A n c))).alloc qblk) (w.heap.size + 1) := by have h := Qb.new (w.alloc (qbox s (.slice A n c))); simpa using h
 have HS := hide (show w.heap.size + 1 < ((w.alloc (qbox s (.slice A n c))).alloc qblk).heap.size by simp)
 have FM := hide (form_any (s := !s) (hc.step a2).iw hL hzz.out)
 have HA := hide a2
 have HZ := hide hz
 clear hc a1 a2 hz hs hzz
 go_enter Tryz.func73, Tryz.ntmps73
 go_wp2_with fail
 refine FM.out.mono ?_
 rintro e w2 ⟨v, rfl, qv, b2⟩
 obtain ⟨sg, A1, n1, c2, rfl, k0, k1, f0, f1, fin⟩ := q_ret (w0 := w) qv (HZ.out.step HS.out b2) (by omega) (HA.out.trans (b2.mono HA.out.size))
 have F := hide fin
 clear fin FM HA HZ HS qv b2
 go_wp2_with fail
 exact bodyPost_ret (qret rfl _ _ _ #[.bool sg, .slice A1 n1 c2] rfl rfl F.out.1) rfl F.out.2
set_option maxHeartbeats 4000000 in
theorem qsubs_any {w : World} {u v : Value} {a b : Int} {L M K : Nat} (hu : Qi w u a L) (hv : Qi w v b M) (hL : L ≤ K) (hM : M ≤ K) (hK : K ≤ 400000000000) :
  Calls Tryz.prog 136 #[u, v] w (QRet w (a - b) (K + 1)) := by
 obtain ⟨s, x, A, n, c, rfl, -, -, -⟩ := id hu.parts
 obtain ⟨t, y, D, m, d, rfl, -, -, -⟩ := id hv.parts
 obtain ⟨a3, z3, hsz, p0, p1, q0, q1⟩ := q_world w s t A D n c m d
 have HU := hide (hu.step a3)
 have HV := hide (hv.step a3)
 have HA := hide a3
 have HZ := hide z3
 have HS := hide (show w.heap.size + 1 + 1 < (((w.alloc (qbox s (.slice A n c))).alloc (qbox t (.slice D m d))).alloc qblk).heap.size by rw [hsz]; omega)
 clear hu hv a3 z3 hsz
 go_enter Tryz.func136, Tryz.ntmps136
 go_wp2_with fail
 generalize hW0 : ((w.alloc (qbox s (.slice A n c))).alloc (qbox t (.slice D m d))).alloc qblk = W0 at *
 have p0d : W0.drew.cell? ⟨w.heap.size, 0, none⟩ = some (.bool s) := p0
 have p1d : W0.drew.cell? ⟨w.heap.size, 1, none⟩ = some (.slice A n c) := p1
 have q0d : W0.drew.cell? ⟨w.heap.size + 1, 0, none⟩ = some (.bool t) := q0
 have q1d : W0.drew.cell? ⟨w.heap.size + 1, 1, none⟩ = some (.slice D m d) := q1
 have C := hide (qnegs_any (w := W0.drew) HV.out (show M ≤ 800000000000 by omega))
 go_region_held3 (fun W => W.cell? ⟨w.heap.size, 0, none⟩ = some (.bool s) ∧ W.cell? ⟨w.heap.size, 1, none⟩ = some (.slice A n c) ∧ W.cell? ⟨w.heap.size + 1, 0, none⟩ = some (.bool t) ∧ W.cell? ⟨w.heap.size + 1, 1, none⟩ = some (.slice D m d))
  (first
   | with_reducible exact ⟨p0d, p1d, q0d, q1d⟩
   | with_reducible exact ⟨cell_keep p0d b1, cell_keep p1d b1, cell_keep q0d b1, cell_keep q1d b1⟩
   | with_reducible exact ⟨cell_keep (cell_keep p0d b1) b2, cell_keep (cell_keep p1d b1) b2, cell_keep (cell_keep q0d b1) b2, cell_keep (cell_keep q1d b1) b2⟩
   | with_reducible exact ⟨cell_zset (cell_keep (cell_keep p0d b1) b2) (by simp <;> omega) _ _, cell_zset (cell_keep (cell_keep p1d b1) b2) (by simp <;> omega) _ _, cell_zset (cell_keep (cell_keep q0d b1) b2) (by simp <;> omega) _ _, cell_zset (cell_keep (cell_keep q1d b1) b2) (by simp <;> omega) _ _⟩)
  (first
   | (go_at_call 73; (with_reducible refine C.out.mono ?_); rintro e w1 ⟨nb, rfl, qn, b1⟩; have FM := hide (Int.sub_eq_add_neg ▸ qadd_any (K := K) (HU.out.step (below_of_drew b1)) qn hL hM hK))
   | (go_at_call 114; (with_reducible refine FM.out.mono ?_); rintro e w2 ⟨v, rfl, qv, b2⟩; obtain ⟨sg, A1, n1, c2, rfl, k0, k1, f0, f1, fin⟩ := q_ret (w0 := w) qv ((HZ.out.step HS.out (below_of_drew b1)).step (Nat.lt_of_lt_of_le HS.out b1.size) b2) (by omega) (HA.out.trans (((below_of_drew b1).trans (b2.mono b1.size)).mono HA.out.size))))
 all_goals
  have F := hide fin
  clear fin
  go_wp2_with fail
  exact bodyPost_ret (qret rfl _ _ _ #[.bool sg, .slice A1 n1 c2] rfl rfl F.out.1) rfl F.out.2
theorem zsg_subs (a b : Int) : zsg (a - b) = cmpZ a b := by
 unfold zsg cmpZ
 rcases Int.lt_trichotomy a b with h | h | h
 ·rw [if_neg (by omega), if_pos (by omega), if_pos h]
 ·rw [if_pos (by omega), if_neg (by omega), if_neg (by omega)]
 ·rw [if_neg (by omega), if_neg (by omega), if_neg (by omega), if_pos h]
set_option maxHeartbeats 4000000 in
theorem qcmps_any {w : World} {u v : Value} {a b : Int} {L M K : Nat} (hu : Qi w u a L) (hv : Qi w v b M) (hL : L ≤ K) (hM : M ≤ K) (hK : K ≤ 400000000000) :
  Calls Tryz.prog 113 #[u, v] w fun e w' => e = .returned (.int .i64 (cmpZ a b)) ∧ Below w.heap.size w w' := by
 obtain ⟨s, x, A, n, c, rfl, -, -, -⟩ := id hu.parts
 obtain ⟨t, y, D, m, d, rfl, -, -, -⟩ := id hv.parts
 have a1 : Below w.heap.size w (w.alloc (qbox s (.slice A n c))) := (Below.refl _ _).alloc (Nat.le_refl _) _
 have a2 : Below w.heap.size w ((w.alloc (qbox s (.slice A n c))).alloc (qbox t (.slice D m d))) := a1.alloc (by simp) _
 have C := hide (qsubs_any (hu.step a2) (hv.step a2) hL hM hK)
 have HA := hide a2
 rw [← zsg_subs]
 clear hu hv a1 a2
 go_enter Tryz.func113, Tryz.ntmps113
 go_wp2_with fail
 refine C.out.mono ?_
 rintro e w1 ⟨v, rfl, qv, b1⟩
 have H := hide qv
 have HA1 := hide (HA.out.trans (b1.mono HA.out.size))
 clear qv b1 C HA
 go_wp2_with fail
 refine (qsign_any H.out).mono ?_
 rintro e w2 ⟨rfl, b2⟩
 have HA2 := hide (HA1.out.trans (b2.mono HA1.out.size))
 clear H HA1 b2
 go_wp2_with fail
 go_ret
 exact ⟨rfl, HA2.out⟩
theorem cmpR_nums (r1 r2 : Rat) : cmpZ (r1.num * ((r2.den : Nat) : Int)) (r2.num * ((r1.den : Nat) : Int)) = cmpR r1 r2 := by
 rw [cmpR_mk r1.num r2.num r1.den r2.den (Nat.pos_of_ne_zero r1.den_nz) (Nat.pos_of_ne_zero r2.den_nz), Rat.mkRat_self, Rat.mkRat_self]
set_option maxHeartbeats 4000000 in
theorem rqcmp_s {w : World} {a b : Value} {r1 r2 : Rat} {L : Nat} (ha : Rf w a r1 L) (hb : Rf w b r2 L) (h1 : 1 ≤ L) (hL : L ≤ 10000000000) :
  Calls Tryz.prog 78 #[a, b] w fun e w' => e = .returned (.int .i64 (cmpR r1 r2)) ∧ Below w.heap.size w w' := by
 obtain ⟨s, A, n, c, D, m, d, rfl, ha⟩ := ha.parts
 obtain ⟨t, F, k, f, H, l, h, rfl, hb⟩ := hb.parts
 have b1 : Below w.heap.size w (w.alloc (fqbox s (.slice A n c) (.slice D m d))) := alloc_below w _
 have b2 : Below w.heap.size w ((w.alloc (fqbox s (.slice A n c) (.slice D m d))).alloc (fqbox t (.slice F k f) (.slice H l h))) := b1.alloc b1.size _
 have q1 : Fq ((w.alloc (fqbox s (.slice A n c) (.slice D m d))).alloc (fqbox t (.slice F k f) (.slice H l h))) w.heap.size s (.slice A n c) (.slice D m d) := (Fq.new w s (.slice A n c) (.slice D m d)).step (alloc_below _ _)
 have q2 : Fq ((w.alloc (fqbox s (.slice A n c) (.slice D m d))).alloc (fqbox t (.slice F k f) (.slice H l h))) (w.heap.size + 1) t (.slice F k f) (.slice H l h) := by
  have h9 := Fq.new (w.alloc (fqbox s (.slice A n c) (.slice D m d))) t (.slice F k f) (.slice H l h)
  rwa [show (w.alloc (fqbox s (.slice A n c) (.slice D m d))).heap.size = w.heap.size + 1 by simp] at h9
 have R0 := hide (And.intro (ha.split.1.step b2) (And.intro (ha.split.2.step b2) (And.intro (hb.split.1.step b2) (hb.split.2.step b2))))
 have P1 := hide q1
 have P2 := hide q2
 have B0 := hide b2
 have HE := hide (cmpR_nums r1 r2)
 rw [← HE.out]
 clear ha hb q1 q2 b1 b2 HE
 generalize r1.num = a1 at *
 generalize r1.den = e1 at *
 generalize r2.num = a2 at *
 generalize r2.den = e2 at *
 go_enter Tryz.func78, Tryz.ntmps78
 go_wp2_with fail
 generalize ((w.alloc (fqbox s (.slice A n c) (.slice D m d))).alloc (fqbox t (.slice F k f) (.slice H l h))) = W0 at *
 have b8 := (Below.refl W0.heap.size W0).drew
 have R := hide (And.intro (R0.out.1.step b8) (And.intro (R0.out.2.1.step b8) (And.intro (R0.out.2.2.1.step b8) (R0.out.2.2.2.step b8))))
 have Q1 := hide (P1.out.step b8)
 have Q2 := hide (P2.out.step b8)
 have B := hide (Below.step B0.out B0.out.size b8)
 clear R0 P1 P2 B0 b8
 go_region_held3 (fun W => (W.cell? ⟨w.heap.size, 0, none⟩ = some (.bool s) ∧ W.cell? ⟨w.heap.size, 1, none⟩ = some (.slice A n c) ∧ W.cell? ⟨w.heap.size, 2, none⟩ = some (.slice D m d)) ∧ (W.cell? ⟨w.heap.size + 1, 0, none⟩ = some (.bool t) ∧ W.cell? ⟨w.heap.size + 1, 1, none⟩ = some (.slice F k f) ∧ W.cell? ⟨w.heap.size + 1, 2, none⟩ = some (.slice H l h)))
  (exact ⟨⟨Q1.out.all.1, Q1.out.all.2.1, Q1.out.all.2.2.1⟩, Q2.out.all.1, Q2.out.all.2.1, Q2.out.all.2.2.1⟩)
  (first
   | (go_at_call 77; refine Calls.mono (rqtimes_any (z := a1) (q := ((e2 : Nat) : Int)) (L := L) ?_ ?_ (by omega)) ?_; (focus ((with_reducible exact R.out.1); done)); (focus ((with_reducible exact R.out.2.2.2); done)); rintro e wx ⟨vx, rfl, tx, bx⟩; have X1 := hide tx; replace R := hide (And.intro (R.out.1.step bx) (And.intro (R.out.2.1.step bx) (And.intro (R.out.2.2.1.step bx) (R.out.2.2.2.step bx)))); replace Q1 := hide (Q1.out.step bx); replace Q2 := hide (Q2.out.step bx); replace B := hide (Below.step B.out B.out.size bx); clear tx bx)
   | (go_at_call 77; refine Calls.mono (rqtimes_any (z := a2) (q := ((e1 : Nat) : Int)) (L := L) ?_ ?_ (by omega)) ?_; (focus ((with_reducible exact R.out.2.2.1); done)); (focus ((with_reducible exact R.out.2.1); done)); rintro e wx ⟨vy, rfl, tx, bx⟩; have X2 := hide tx; replace X1 := hide (X1.out.step bx); replace Q1 := hide (Q1.out.step bx); replace Q2 := hide (Q2.out.step bx); replace B := hide (Below.step B.out B.out.size bx); clear tx bx R)
   | (go_at_call 113; refine Calls.mono (qcmps_any (a := a1 * ((e2 : Nat) : Int)) (b := a2 * ((e1 : Nat) : Int)) (L := L + L) (M := L + L) (K := L + L) X1.out X2.out (by omega) (by omega) (by omega)) ?_; rintro e wx ⟨rfl, bx⟩; replace Q1 := hide (Q1.out.step bx); replace Q2 := hide (Q2.out.step bx); replace B := hide (Below.step B.out B.out.size bx); clear bx))
 all_goals
  clear Q1 Q2
  go_wp2_with fail
  go_ret
  exact ⟨rfl, B.out⟩
theorem kpt_ways {s : Int} {q r : Rat} {z : Int} (hz : z = cmpR q r) :
  ((s == 1) = true ∧ Hid (∀ o : Bool, o = decide (z ≤ 0) → (o = true ↔ Kpt s q r))) ∨
  ((s == 1) = false ∧ (s == 2) = true ∧ Hid (∀ o : Bool, o = decide (0 ≤ z) → (o = true ↔ Kpt s q r))) ∨
  ((s == 1) = false ∧ (s == 2) = false ∧ (s == 3) = true ∧ Hid (∀ o : Bool, o = (z == 0) → (o = true ↔ Kpt s q r))) ∨
  ((s == 1) = false ∧ (s == 2) = false ∧ (s == 3) = false ∧ Hid (¬ Kpt s q r)) := by
 subst hz
 by_cases e1 : s = 1
 ·refine .inl ⟨beq_iff_eq.2 e1, hide fun o ho => ?_⟩
  rw [ho, decide_eq_true_iff, cmpR_le, e1]
  simp [Kpt]
 ·refine .inr ?_
  by_cases e2 : s = 2
  ·refine .inl ⟨beq_eq_false_iff_ne.2 e1, beq_iff_eq.2 e2, hide fun o ho => ?_⟩
   rw [ho, decide_eq_true_iff, cmp_ge0, e2]
   simp [Kpt]
  ·refine .inr ?_
   by_cases e3 : s = 3
   ·refine .inl ⟨beq_eq_false_iff_ne.2 e1, beq_eq_false_iff_ne.2 e2, beq_iff_eq.2 e3, hide fun o ho => ?_⟩
    rw [ho, beq_iff_eq, cmp_eq0, e3]
    simp [Kpt]
   ·exact .inr ⟨beq_eq_false_iff_ne.2 e1, beq_eq_false_iff_ne.2 e2, beq_eq_false_iff_ne.2 e3, hide fun h => by rcases h.sense with h | h | h <;> contradiction⟩
set_option maxHeartbeats 4000000 in
theorem kept_f {w : World} {k : Kx} {q : Rx} {L M : Nat} (hk : Ra w (rx k.x) k.x.r L) (hq : Rf w (rx q) q.r M) (h1 : 1 ≤ L) (hL : L ≤ 1000000000) (hM : M ≤ 1000000000) :
  Calls Tryz.prog 44 #[kx k, rx q] w fun e w' => BRet (Kpt k.s q.r k.x.r) e ∧ Below w.heap.size w w' := by
 have b2 : Below w.heap.size w ((w.alloc (kbox k)).alloc (fqbox q.s (sv q.u) (sv q.t))).drew := (((Below.refl _ _).alloc (Nat.le_refl _) _).alloc (by simp) _).drew
 have P := hide (show Kq ((w.alloc (kbox k)).alloc (fqbox q.s (sv q.u) (sv q.t))).drew w.heap.size k from ((Kq.new w k).step ((Below.refl _ _).alloc (Nat.le_refl _) (fqbox q.s (sv q.u) (sv q.t)))).step (Below.refl _ _).drew)
 have F := hide (show Fq ((w.alloc (kbox k)).alloc (fqbox q.s (sv q.u) (sv q.t))).drew (w.heap.size + 1) q.s (sv q.u) (sv q.t) by
  have h := Fq.new (w.alloc (kbox k)) q.s (sv q.u) (sv q.t)
  have h2 : Fq ((w.alloc (kbox k)).alloc (fqbox q.s (sv q.u) (sv q.t))) (w.heap.size + 1) q.s (sv q.u) (sv q.t) := by simpa using h
  exact h2)
 have HK := hide (hk.step b2)
 have HQ := hide (hq.step b2)
 have B := hide b2
 clear hk hq b2
 go_enter Tryz.func44, Tryz.ntmps44
 go_wp2_with fail
 generalize hW0 : ((w.alloc (kbox k)).alloc (fqbox q.s (sv q.u) (sv q.t))) = W0 at *
 go_region_held3 (fun W => (W.cell? ⟨w.heap.size, 0, none⟩ = some (.int .i64 k.s) ∧ W.cell? ⟨w.heap.size, 1, none⟩ = some (sv k.v) ∧ W.cell? ⟨w.heap.size, 2, none⟩ = some (.bool k.x.s) ∧ W.cell? ⟨w.heap.size, 3, none⟩ = some (sv k.x.u) ∧ W.cell? ⟨w.heap.size, 4, none⟩ = some (sv k.x.t)) ∧ (W.cell? ⟨w.heap.size + 1, 0, none⟩ = some (.bool q.s) ∧ W.cell? ⟨w.heap.size + 1, 1, none⟩ = some (sv q.u) ∧ W.cell? ⟨w.heap.size + 1, 2, none⟩ = some (sv q.t)))
  (with_reducible exact ⟨P.out.all, F.out.all.1, F.out.all.2.1, F.out.all.2.2.1⟩)
  (first
   | (go_at_call 39; refine Calls.mono (rof_f (L := L) HK.out h1 hL) ?_; rintro e wx ⟨y, rfl, hy, ry, bx⟩; have HY := hide hy; have RY := hide ry; replace P := hide (P.out.step bx); replace F := hide (F.out.step bx); replace HQ := hide (HQ.out.step bx); replace B := hide (Below.step B.out B.out.size bx); clear hy ry bx)
   | (go_at_call 78; refine Calls.mono (rqcmp_s (L := 5 * L + M) (HQ.out.more (by omega)) (RY.out.more (by omega)) (by omega) (by omega)) ?_; rintro e wx ⟨rfl, bx⟩; replace P := hide (P.out.step bx); replace F := hide (F.out.step bx); replace B := hide (Below.step B.out B.out.size bx); clear bx))
 all_goals
  obtain ⟨z, hz⟩ : ∃ z, z = cmpR q.r y.r := ⟨_, rfl⟩
  rw [← hz]
  have hs := kpt_ways (s := k.s) hz
  rw [HY.out] at hs
  clear hz
  obtain ⟨p0, p1, p2, p3, p4⟩ := P.out.all
  rcases hs with ⟨t1, K⟩ | ⟨t1, t2, K⟩ | ⟨t1, t2, t3, K⟩ | ⟨t1, t2, t3, K⟩
  ·have t2 : (k.s == 2) = false := by rw [eq_of_beq t1]; rfl
   have t3 : (k.s == 3) = false := by rw [eq_of_beq t1]; rfl
   cases hd : decide (z ≤ 0)
   ·rw [hd] at K
    go_wp2_with fail
    go_ret
    exact ⟨⟨_, rfl, K.out _ rfl⟩, B.out⟩
   ·rw [hd] at K
    go_wp2_with fail
    go_ret
    exact ⟨⟨_, rfl, K.out _ rfl⟩, B.out⟩
  ·have t3 : (k.s == 3) = false := by rw [eq_of_beq t2]; rfl
   cases hd : decide (0 ≤ z)
   ·rw [hd] at K
    go_wp2_with fail
    go_ret
    exact ⟨⟨_, rfl, K.out _ rfl⟩, B.out⟩
   ·rw [hd] at K
    go_wp2_with fail
    go_ret
    exact ⟨⟨_, rfl, K.out _ rfl⟩, B.out⟩
  ·go_wp2_with fail
   go_ret
   exact ⟨⟨_, rfl, K.out _ rfl⟩, B.out⟩
  ·go_wp2_with fail
   go_ret
   exact ⟨⟨false, rfl, by constructor <;> intro h; cases h; exact absurd h K.out⟩, B.out⟩
set_option maxHeartbeats 4000000 in
theorem rholds_f {w : World} {k : Kx} {u : Value} {f : List Rx} {L K : Nat} (hk : Kv w k L) (hu : Fv w u f K) (hn : k.d.length ≤ 100) (h1 : 1 ≤ L) (hL : L ≤ 1000) (h2 : 1 ≤ K) (hK : K ≤ 1000) (hf : f.length ≤ 100) :
  Calls Tryz.prog 12 #[kx k, u] w fun e w' => BRet (Kpt k.s (dt (tms k.d) (xf f)) k.x.r) e ∧ Below w.heap.size w w' := by
 obtain ⟨A6, n6, c6, rfl⟩ := rv_sl hu.1
 have b2 : Below w.heap.size w (w.alloc (kbox k)).drew := ((Below.refl _ _).alloc (Nat.le_refl _) _).drew
 have P := hide (show Kq (w.alloc (kbox k)).drew w.heap.size k from (Kq.new w k).step (Below.refl _ _).drew)
 have HV := hide (hk.1.step b2)
 have HR := hide (hk.2.step b2)
 have HU := hide (hu.step b2)
 have B := hide b2
 have HN := hide hn
 have HM : k.d.length * (5 * L + 1) + 6 + 5 * K + 1 ≤ 600000 := by have := Nat.mul_le_mul hn (show 5 * L + 1 ≤ 5001 by omega); omega
 have HM2 := hide (show f.length * (k.d.length * (5 * L + 1) + 6 + 5 * K + 1) + 6 ≤ 100000000 by have := Nat.mul_le_mul hf HM; omega)
 have HM' := hide HM
 clear hk hu b2 hn HM
 go_enter Tryz.func12, Tryz.ntmps12
 go_wp2_with fail
 generalize hW0 : (w.alloc (kbox k)) = W0 at *
 go_region_held3 (fun W => W.cell? ⟨w.heap.size, 0, none⟩ = some (.int .i64 k.s) ∧ W.cell? ⟨w.heap.size, 1, none⟩ = some (sv k.v) ∧ W.cell? ⟨w.heap.size, 2, none⟩ = some (.bool k.x.s) ∧ W.cell? ⟨w.heap.size, 3, none⟩ = some (sv k.x.u) ∧ W.cell? ⟨w.heap.size, 4, none⟩ = some (sv k.x.t))
  (with_reducible exact P.out.all)
  (first
   | (go_at_call 45; refine Calls.mono (vdot_f (L := L) (K := K) HV.out HU.out (Nat.le_trans HN.out (by omega)) h1 (by omega) h2 (by omega) (by omega) (Nat.le_trans HM'.out (by omega))) ?_; rintro e wx ⟨y, rfl, hy, ry, bx⟩; have HY := hide hy; have RY := hide ry; replace P := hide (P.out.step bx); replace HR := hide (HR.out.step bx); replace B := hide (Below.step B.out B.out.size bx); clear hy ry bx)
   | (go_at_call 44; refine Calls.mono (kept_f (k := k) (q := y) HR.out RY.out h1 (by omega) (Nat.le_trans HM2.out (by omega))) ?_; rintro e wx ⟨⟨o, rfl, ho⟩, bx⟩; have H9 := hide ho; replace P := hide (P.out.step bx); replace B := hide (Below.step B.out B.out.size bx); clear ho bx))
 all_goals
  go_wp2_with fail
  go_ret
  exact ⟨⟨_, rfl, by rw [H9.out, HY.out]⟩, B.out⟩
theorem samecons_x {w : World} {a b : Kx} {L M : Nat} (ha : Kc w a L) (hb : Kc w b M) :
  Calls Tryz.prog 10 #[kx a, kx b] w fun e w' => BRet (a.s = b.s ∧ tms a.d = tms b.d ∧ a.x.r = b.x.r) e ∧ Below w.heap.size w w' := by
 have b2 : Below w.heap.size w ((w.alloc (kbox a)).alloc (kbox b)) := ((Below.refl _ _).alloc (Nat.le_refl _) _).alloc (by simp) _
 have P := hide (show Kq ((w.alloc (kbox a)).alloc (kbox b)) w.heap.size a from (Kq.new w a).step ((Below.refl _ _).alloc (Nat.le_refl _) (kbox b)))
 have P2 := hide (show Kq ((w.alloc (kbox a)).alloc (kbox b)) (w.heap.size + 1) b by
  have h := Kq.new (w.alloc (kbox a)) b
  have h2 : Kq ((w.alloc (kbox a)).alloc (kbox b)) (w.heap.size + 1) b := by simpa using h
  exact h2)
 have HA := hide (ha.step b2)
 have HB := hide (hb.step b2)
 have B := hide b2
 clear ha hb b2
 obtain ⟨p0, p1, p2, p3, p4⟩ := P.out.all
 obtain ⟨q0, q1, q2, q3, q4⟩ := P2.out.all
 go_enter Tryz.func10, Tryz.ntmps10
 by_cases hs : a.s = b.s
 case neg =>
  have t1 : (a.s == b.s) = false := beq_eq_false_iff_ne.2 hs
  have H := hide hs
  clear hs
  go_wp2_with fail
  go_ret
  exact ⟨⟨false, rfl, by constructor <;> intro h; cases h; exact absurd h.1 H.out⟩, B.out⟩
 have t1 : (a.s == b.s) = true := beq_iff_eq.2 hs
 have H := hide hs
 clear hs
 go_wp2_with fail
 refine (vsame_x HA.out.1 HB.out.1).mono ?_
 rintro e w1 ⟨⟨o, rfl, ho⟩, bx⟩
 have H1 := hide ho
 replace P := hide (P.out.step bx)
 replace P2 := hide (P2.out.step bx)
 replace HA := hide (HA.out.step bx)
 replace HB := hide (HB.out.step bx)
 replace B := hide (Below.step B.out B.out.size bx)
 clear ho bx p0 p1 p2 p3 p4 q0 q1 q2 q3 q4
 obtain ⟨p0, p1, p2, p3, p4⟩ := P.out.all
 obtain ⟨q0, q1, q2, q3, q4⟩ := P2.out.all
 cases o
 ·go_wp2_with fail
  go_ret
  exact ⟨⟨false, rfl, by constructor <;> intro h; cases h; exact absurd (H1.out.2 h.2.1) (by simp)⟩, B.out⟩
 go_wp2_with fail
 refine (rsame_x HA.out.2.1 HB.out.2.1).mono ?_
 rintro e w1 ⟨⟨o, rfl, ho⟩, bx⟩
 have H2 := hide ho
 replace B := hide (Below.step B.out B.out.size bx)
 clear ho bx p0 p1 p2 p3 p4 q0 q1 q2 q3 q4
 go_wp2_with fail
 go_ret
 exact ⟨⟨_, rfl, by rw [H2.out]; exact ⟨fun h => ⟨H.out, H1.out.1 (by simp), h⟩, fun h => h.2.2⟩⟩, B.out⟩
theorem fv1 {W : World} {x : Rx} {L : Nat} (h : Ra W (rx x) x.r L) {g : Nat} (hg : W.heap.size = g) : Fv (W.alloc (.cells #[.bool x.s, sv x.u, sv x.t] 27)) (.slice (some ⟨g, 0, none⟩) 1 1) [x] L := by
 subst hg
 exact ⟨(Ow.lit (B := W.heap.size) er_len W 27 [x] _ rfl (Nat.le_refl _) (by simp [maxLen])).rl er_len, fun y hy => by simp at hy; subst hy; exact h.step (alloc_below _ _)⟩
def KsOk (k : Kx) : Prop := k.d.length ≤ 30 ∧ (∀ t ∈ k.d, t.x.u.2.1 + t.x.t.2.1 ≤ 6) ∧ k.x.u.2.1 + k.x.t.2.1 ≤ 6
theorem Ra.big {W : World} {x : Rx} {r : Rat} {L : Nat} (h : Ra W (rx x) r L) (hx : x.u.2.1 + x.t.2.1 ≤ 6) : Ra W (rx x) r 6 := h.tight (by omega) (by omega)
theorem Kv.tight {W : World} {k : Kx} {L : Nat} (h : Kv W k L) (hk : KsOk k) : Kv W k 6 := ⟨h.1.tight hk.2.1, h.2.big hk.2.2⟩
theorem cells4_at {w W : World} {b off : Nat} {k : Kx} (h : b < w.heap.size ∧ w.cell? ⟨b, off + 1, none⟩ = some (sv k.v) ∧ w.cell? ⟨b, off + 2, none⟩ = some (.bool k.x.s) ∧ w.cell? ⟨b, off + 3, none⟩ = some (sv k.x.u) ∧ w.cell? ⟨b, off + 4, none⟩ = some (sv k.x.t)) (B : Below w.heap.size w W) :
  W.cell? ⟨b, off + 1, none⟩ = some (sv k.v) ∧ W.cell? ⟨b, off + 2, none⟩ = some (.bool k.x.s) ∧ W.cell? ⟨b, off + 3, none⟩ = some (sv k.x.u) ∧ W.cell? ⟨b, off + 4, none⟩ = some (sv k.x.t) := ⟨(B.cell h.1).trans h.2.1, (B.cell h.1).trans h.2.2.1, (B.cell h.1).trans h.2.2.2.1, (B.cell h.1).trans h.2.2.2.2⟩
set_option maxHeartbeats 8000000 in
theorem kgreat_c {w : World} {v : Value} {l : List Kx} {L : Nat} (hv : Kl w v l L) (hL : L ≤ 17592186044000) :
  Calls Tryz.prog 6 #[v] w fun e w' => Below w.heap.size w w' ∧ ∃ b : Bool, e = .returned (.bool b) ∧ (b = false → l.length ≤ 12 ∧ ∀ k ∈ l, KsOk k) := by
 obtain ⟨A, c, e1, hc1, hc2, hc3⟩ := id hv.1
 obtain ⟨n, hlen⟩ : ∃ n, n = l.length := ⟨_, rfl⟩
 rw [← hlen] at e1 hc1 ⊢
 subst e1
 have HV := hide hv
 have HN := hide hlen
 unfold maxLen at hc2
 clear hv hc3 hlen
 go_enter Tryz.func6, Tryz.ntmps6
 go_wp2_with fail
 go_loopw [3, 4] (fun sv0 iv wr => ∃ (k : Nat) (z : Int), k ≤ n ∧ sv0 = .int .i64 z ∧ iv = .int .i64 (k : Int) ∧ Hid (Below w.heap.size w wr) ∧ Hid (∀ (j : Nat) x, j < k → l[j]? = some x → KsOk x)) (fun _ iv _ => n - (intOf iv).toNat)
 case atStart => exact ⟨0, 0, Nat.zero_le _, rfl, rfl, hide (Below.refl _ _), hide (fun j x h => by omega)⟩
 case round =>
  obtain ⟨k, z, hk, rfl, rfl, B, P⟩ := hrel
  by_cases hlt : k < n
  ·obtain ⟨x, hx⟩ := len_of (d := l) (k := k) (by rw [← HN.out]; exact hlt)
   have KV := hide (HV.out.2 x (List.mem_of_getElem? hx))
   obtain ⟨b, off, rfl, hb, hc⟩ := HV.out.1.get hx
   have QW := hide (And.intro hb (And.intro (hc 1 _ rfl) (And.intro (hc 2 _ rfl) (And.intro (hc 3 _ rfl) (hc 4 _ rfl)))))
   obtain ⟨c1, c2, c3, c4⟩ := cells4_at QW.out B.out
   have HX := hide hx
   have l0 : (0 : Int) ≤ (k : Int) := by omega
   have l1 : (k : Int) < (n : Int) := by omega
   clear hc hb hx
   go_wp2_with fail
   refine (great_c (KV.out.1.step B.out) hL).mono ?_
   rintro e w2 ⟨bx, p, rfl, hp⟩
   replace B := hide (Below.step B.out B.out.size bx)
   have HP := hide hp
   clear bx hp c1 c2 c3 c4
   obtain ⟨c1, c2, c3, c4⟩ := cells4_at QW.out B.out
   cases p with
   | true =>
    go_wp2_with fail
    go_ret
    exact ⟨B.out, true, rfl, fun h => by cases h⟩
   | false =>
    have Q := hide (HP.out rfl)
    go_wp2_with fail
    refine (words_x (KV.out.2.step B.out) hL).mono ?_
    rintro e w3 ⟨rfl, bx⟩
    replace B := hide (Below.step B.out B.out.size bx)
    obtain ⟨m, hm⟩ : ∃ m, m = x.x.u.2.1 + x.x.t.2.1 := ⟨_, rfl⟩
    rw [← hm]
    have HM := hide hm
    clear bx hm c1 c2 c3 c4
    by_cases h6 : 6 < m
    ·have t1 : decide ((6 : Int) < (m : Int)) = true := decide_eq_true (by omega)
     go_wp2_with fail
     go_ret
     exact ⟨B.out, true, rfl, fun h => by cases h⟩
    ·have t1 : decide ((6 : Int) < (m : Int)) = false := decide_eq_false (by omega)
     have P3 := hide (show ∀ (j : Nat) y, j < k + 1 → l[j]? = some y → KsOk y from fun j y hj hy => by
      by_cases h : j = k
      ·subst h
       rw [HX.out] at hy
       injection hy with hy
       subst hy
       exact ⟨Q.out.1, Q.out.2, by have := HM.out; omega⟩
      ·exact P.out j y (by omega) hy)
     have B0 := hide (Below.step B.out B.out.size (Below.refl w3.heap.size w3).drew)
     replace B := B0
     clear P HP
     go_wp2_with fail
     go_region_held3 (fun W => W.cell? ⟨b, off + k * 5 + 1, none⟩ = some (sv x.v) ∧ W.cell? ⟨b, off + k * 5 + 2, none⟩ = some (.bool x.x.s) ∧ W.cell? ⟨b, off + k * 5 + 3, none⟩ = some (sv x.x.u) ∧ W.cell? ⟨b, off + k * 5 + 4, none⟩ = some (sv x.x.t))
      (first | with_reducible exact cells4_at QW.out B.out | with_reducible exact cells4_at QW.out (Below.step B.out B.out.size (alloc_below _ _)))
      (first
       | (go_at_call 27; refine Calls.mono (weights_c (KV.out.1.step (by first | exact B.out | exact Below.step B.out B.out.size (alloc_below _ _))) hL (by have := Q.out.1; omega)) ?_; rintro e wx ⟨z2, rfl, bx⟩; have BX := hide bx; replace B := hide (show Below w.heap.size w wx by first | exact Below.step B.out B.out.size bx | exact Below.step (Below.step B.out B.out.size (alloc_below _ _)) (Below.step B.out B.out.size (alloc_below _ _)).size bx); clear bx)
       | (go_at_call 28; refine Calls.mono (weight_c (d := [x.x]) (L := L) (by first | exact fv1 (KV.out.2.step B.out) rfl | exact (fv1 (KV.out.2.step B0.out) rfl).step BX.out) hL) ?_; rintro e wy ⟨z3, rfl, by1⟩; have B9 := hide (show Below w.heap.size w wy by first | exact Below.step B.out B.out.size by1 | exact Below.step (Below.step B.out B.out.size (alloc_below _ _)) (Below.step B.out B.out.size (alloc_below _ _)).size by1); replace B := B9; clear by1))
     all_goals
      clear B0
      go_wp2_with fail
      exact ⟨⟨k + 1, _, by omega, rfl, by go_num, B9, P3⟩, by simp [intOf]; omega⟩
  ·obtain rfl : k = n := by omega
   have HP := hide (show ∀ x ∈ l, KsOk x from fun x hx => by
    obtain ⟨j, hj, e⟩ := List.getElem_of_mem hx
    exact P.out j x (by rw [HN.out]; exact hj) (by rw [List.getElem?_eq_getElem hj, e]))
   by_cases h12 : 12 < k
   ·have t1 : decide ((12 : Int) < (k : Int)) = true := decide_eq_true (by omega)
    go_wp2_with fail
    go_ret
    exact ⟨B.out, true, rfl, fun h => by cases h⟩
   ·have t1 : decide ((12 : Int) < (k : Int)) = false := decide_eq_false (by omega)
    go_wp2_with fail
    go_ret
    exact ⟨B.out, _, rfl, fun _ => ⟨by omega, HP.out⟩⟩
end Go.Proofs.YtofmhfbbedalbaaGreat
