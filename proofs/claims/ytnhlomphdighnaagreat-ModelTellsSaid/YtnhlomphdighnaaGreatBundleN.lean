/-
  Shared texts, one behind the other: Kcon7, Kcon8, Samx, Rcmp, Kref1, Kone.
-/
import Derived.Test.YtnhlomphdighnaaGreatBundleM
import Derived.Test.YtnhlomphdighnaaGreatVref5
import Derived.Test.YtnhlomphdighnaaGreatBundleO
import Derived.Deep.DeepCutAuto
import Derived.Deep.CutBlock
import Derived.BigGuardPart
import Derived.Deep.QuietTactic
import Derived.BigQuiet
import Derived.Test.YtnhlomphdighnaaGreatFl
import Derived.Test.YtnhlomphdighnaaGreatBundleE
import Derived.Deep.RegionHeld3
import Derived.Test.YtnhlomphdighnaaGreatBundleH

namespace Go.Proofs.YtnhlomphdighnaaGreat
open Go.RowKit Go.Proofs.YtnhlomphdighnaaGreat.Num
set_option linter.unusedVariables false
set_option linter.unusedSimpArgs false
set_option maxRecDepth 100000
theorem cells3_at {w W : World} {b off : Nat} {x : Rx} (h : b < w.heap.size ∧ w.cell? ⟨b, off, none⟩ = some (.bool x.s) ∧ w.cell? ⟨b, off + 1, none⟩ = some (sv x.u) ∧ w.cell? ⟨b, off + 2, none⟩ = some (sv x.t)) (B : Below w.heap.size w W) :
  W.cell? ⟨b, off, none⟩ = some (.bool x.s) ∧ W.cell? ⟨b, off + 1, none⟩ = some (sv x.u) ∧ W.cell? ⟨b, off + 2, none⟩ = some (sv x.t) := ⟨(B.cell h.1).trans h.2.1, (B.cell h.1).trans h.2.2.1, (B.cell h.1).trans h.2.2.2⟩
theorem ne_of_beq_false {a b : Bool} (h : (a == b) = false) : a ≠ b := by
  rintro rfl
  cases a <;> cases h
theorem rat_same (r q : Rat) : r = q ↔ (decide (r.num < 0) = decide (q.num < 0) ∧ cn Q r.num.natAbs = cn Q q.num.natAbs ∧ cn Q r.den = cn Q q.den) := by
  constructor
  · rintro rfl
    exact ⟨rfl, rfl, rfl⟩
  · rintro ⟨h1, h2, h3⟩
    have e2 := cn_inj Q_two h2
    have e3 := cn_inj Q_two h3
    have e1 : (r.num < 0) ↔ (q.num < 0) := by simpa using h1
    exact Rat.ext (by omega) e3
def Sm (d f : List Tx) (k : Nat) : Prop := ∀ j x y, j < k → d[j]? = some x → f[j]? = some y → x.c = y.c ∧ x.x.r = y.x.r
theorem Sm.zero (d f : List Tx) : Sm d f 0 := fun j x y h => by omega
theorem Sm.next {d f : List Tx} {k : Nat} {x y : Tx} (h : Sm d f k) (hx : d[k]? = some x) (hy : f[k]? = some y) (e1 : x.c = y.c) (e2 : x.x.r = y.x.r) : Sm d f (k + 1) := by
  intro j x' y' hj hx' hy'
  by_cases e : j = k
  · subst e
    rw [hx] at hx'; rw [hy] at hy'
    cases hx'; cases hy'
    exact ⟨e1, e2⟩
  · exact h j x' y' (by omega) hx' hy'
theorem Sm.done {d f : List Tx} {k : Nat} (h : Sm d f k) (hk : d.length ≤ k) (hl : d.length = f.length) : tms d = tms f := by
  refine List.ext_getElem? (fun j => ?_)
  unfold tms
  rw [List.getElem?_map, List.getElem?_map]
  by_cases hj : j < d.length
  · obtain ⟨x, hx⟩ := len_of hj
    obtain ⟨y, hy⟩ := len_of (d := f) (k := j) (by omega)
    have := h j x y (by omega) hx hy
    rw [hx, hy]
    simp [tm, this.1, this.2]
  · rw [List.getElem?_eq_none (by omega), List.getElem?_eq_none (by omega)]
theorem lsame_x {w : World} {u v : Value} {xs ys : List Nat} {L M : Nat} (hu : Lw w u xs L) (hv : Lw w v ys M) :
    Calls Tryz.prog 50 #[u, v] w fun e w' => (∃ b : Bool, e = .returned (.bool b) ∧ (b = true ↔ xs = ys)) ∧ Below w.heap.size w w' := by
  obtain ⟨A, n, c, rfl, hx, _, h1, h2, _⟩ := hu
  obtain ⟨D, m, d, rfl, hy, _, h3, h4, _⟩ := hv
  refine (same_any _ _ A D _ c _ d _ _ w hx hy (by omega) (by omega)).mono fun e w' ⟨he, m, hm⟩ => ⟨⟨_, he, by unfold sameB; simp⟩, ?_⟩
  rw [hm]
  exact below_drewN (Below.refl _ _) m
set_option maxHeartbeats 1000000 in
theorem zsame_x {w : World} {s t : Bool} {u v : Value} {xs ys : List Nat} {L M : Nat} (hu : Lw w u xs L) (hv : Lw w v ys M) :
    Calls Tryz.prog 49 #[zv s u, zv t v] w fun e w' => (∃ b : Bool, e = .returned (.bool b) ∧ (b = true ↔ s = t ∧ xs = ys)) ∧ Below w.heap.size w w' := by
  obtain ⟨A, n, c, rfl⟩ := hu.nw.slice
  obtain ⟨D, m, d, rfl⟩ := hv.nw.slice
  have a1 : Below w.heap.size w (w.alloc (zbox s (.slice A n c))) := (Below.refl _ _).alloc (Nat.le_refl _) _
  have a2 : Below w.heap.size w ((w.alloc (zbox s (.slice A n c))).alloc (zbox t (.slice D m d))) := a1.alloc (by simp) _
  have S := hide (lsame_x (hu.step a2) (hv.step a2))
  have HA := hide a2
  clear hu hv a1 a2
  go_enter Tryz.func49, Tryz.ntmps49
  by_cases hst : (s == t) = true
  · go_wp2_with (go_at_call 50; refine S.out.mono ?_; rintro e w1 ⟨⟨b9, rfl, hb9⟩, b1⟩)
    go_ret
    exact ⟨⟨_, rfl, by rw [hb9]; have := eq_of_beq hst; simp [this]⟩, HA.out.trans (b1.mono HA.out.size)⟩
  · have hst' : (s == t) = false := by simpa using hst
    clear hst
    go_wp2_with fail
    go_ret
    exact ⟨⟨_, rfl, by have := ne_of_beq_false hst'; simp [this]⟩, HA.out⟩
set_option maxHeartbeats 2000000 in
theorem rsame_x {w : World} {u v : Value} {r q : Rat} {L M : Nat} (hu : Rc w u r L) (hv : Rc w v q M) :
    Calls Tryz.prog 19 #[u, v] w fun e w' => (∃ b : Bool, e = .returned (.bool b) ∧ (b = true ↔ r = q)) ∧ Below w.heap.size w w' := by
  obtain ⟨u1, u2, rfl, a1, a2⟩ := hu
  obtain ⟨v1, v2, rfl, c1, c2⟩ := hv
  obtain ⟨A, n, c, rfl⟩ := a1.nw.slice
  obtain ⟨D, m, d, rfl⟩ := a2.nw.slice
  obtain ⟨F, k, f, rfl⟩ := c1.nw.slice
  obtain ⟨H, l, h, rfl⟩ := c2.nw.slice
  have E := hide (rat_same r q)
  generalize decide (r.num < 0) = s at *
  generalize decide (q.num < 0) = t at *
  obtain ⟨b2, ⟨p0, p1, p2⟩, q0, q1, q2⟩ := f_world0 w s t A D F H n c m d k f l h
  have b3 : Below w.heap.size w ((w.alloc (rbox s (.slice A n c) (.slice D m d))).alloc (rbox t (.slice F k f) (.slice H l h))) := ((Below.refl _ _).alloc (Nat.le_refl _) _).alloc (by simp) _
  have C1 := hide (zsame_x (s := s) (t := t) ((cw_lw a1).step b3) ((cw_lw c1).step b3))
  have N1 := hide ((cw_lw a2).step b3)
  have N2 := hide ((cw_lw c2).step b3)
  have B := hide b3
  have C : Hid (Fx ((w.alloc (rbox s (.slice A n c) (.slice D m d))).alloc (rbox t (.slice F k f) (.slice H l h))) w.heap.size s A n c D m d ∧ Fx ((w.alloc (rbox s (.slice A n c) (.slice D m d))).alloc (rbox t (.slice F k f) (.slice H l h))) (w.heap.size + 1) t F k f H l h) := hide ⟨⟨p0, p1, p2⟩, q0, q1, q2⟩
  clear b2 b3 a1 a2 c1 c2 p0 p1 p2 q0 q1 q2
  go_enter Tryz.func19, Tryz.ntmps19
  go_wp2_with fail
  refine C1.out.mono ?_
  rintro e w1 ⟨⟨b9, rfl, hb9⟩, b1⟩
  have H9 := hide hb9
  clear hb9
  obtain ⟨p0, p1, p2⟩ := C.out.1.step b1
  obtain ⟨q0, q1, q2⟩ := C.out.2.step b1
  have B1 := hide (Below.step B.out B.out.size b1)
  cases b9
  · clear C1 N1 N2 B C b1
    go_wp2_with fail
    go_ret
    exact ⟨⟨_, rfl, by rw [E.out]; constructor
                       · intro h; cases h
                       · intro h; exact H9.out.2 ⟨h.1, h.2.1⟩⟩, B1.out⟩
  · have C2 := hide (lsame_x (N1.out.step b1) (N2.out.step b1))
    clear C1 N1 N2 B C b1
    go_wp2_with fail
    refine C2.out.mono ?_
    rintro e w2 ⟨⟨b8, rfl, hb8⟩, b2⟩
    have H8 := hide hb8
    clear hb8
    have B2 := hide (Below.step B1.out B1.out.size b2)
    clear C2 B1 b2 p0 p1 p2 q0 q1 q2
    go_wp2_with fail
    go_ret
    exact ⟨⟨_, rfl, by rw [E.out, H8.out]; exact ⟨fun h => ⟨(H9.out.1 (by simp)).1, (H9.out.1 (by simp)).2, h⟩, fun h => h.2.2⟩⟩, B2.out⟩
set_option maxHeartbeats 8000000 in
theorem vsame_x {w : World} {u v : Value} {d f : List Tx} {L M : Nat} (hu : Tc w u d L) (hv : Tc w v f M) :
    Calls Tryz.prog 12 #[u, v] w fun e w' => (∃ b : Bool, e = .returned (.bool b) ∧ (b = true ↔ tms d = tms f)) ∧ Below w.heap.size w w' := by
  obtain ⟨A, c, e1, hc1, hc2, hc3⟩ := id hu.1
  obtain ⟨D, m, e2, hd1, hd2, hd3⟩ := id hv.1
  obtain ⟨n, hlen⟩ : ∃ n, n = d.length := ⟨_, rfl⟩
  obtain ⟨n', hlen'⟩ : ∃ n', n' = f.length := ⟨_, rfl⟩
  rw [← hlen] at e1 hc1
  rw [← hlen'] at e2 hd1
  subst e1 e2
  have HU := hide hu
  have HV := hide hv
  have HN := hide hlen
  have HL := hide hlen'
  unfold maxLen at hc2
  clear hu hv hc3 hd3 hlen hlen'
  go_enter Tryz.func12, Tryz.ntmps12
  by_cases hnn : n = n'
  case neg =>
    have t0 : ((n : Int) != (n' : Int)) = true := by simp; omega
    go_wp2_with fail
    go_ret
    exact ⟨⟨false, rfl, by
      constructor
      · intro h; cases h
      · intro h; have h1 := congrArg List.length h; rw [tms_len, tms_len, ← HN.out, ← HL.out] at h1; exact absurd h1 hnn⟩, Below.refl _ _⟩
  subst hnn
  have t0 : ((n : Int) != (n : Int)) = false := by simp
  go_wp2_with fail
  go_loopw [5] (fun iv wr => ∃ k : Nat, k ≤ n ∧ iv = .int .i64 (k : Int) ∧ Hid (Below w.heap.size w wr) ∧ Hid (Sm d f k)) (fun iv _ => n - (intOf iv).toNat)
  case atStart => exact ⟨0, Nat.zero_le _, rfl, hide (Below.refl _ _), hide (Sm.zero d f)⟩
  case round =>
    obtain ⟨k, hk, rfl, B, S⟩ := hrel
    by_cases hlt : k < n
    · obtain ⟨x, hx⟩ := len_of (d := d) (k := k) (by rw [← HN.out]; exact hlt)
      obtain ⟨y, hy⟩ := len_of (d := f) (k := k) (by rw [← HL.out]; exact hlt)
      have b8 := (Below.refl wr.heap.size wr).drew
      have B8 := hide (Below.step B.out B.out.size b8)
      have RX := hide (((HU.out.2 x (List.mem_of_getElem? hx)).step B.out).step b8)
      have RY := hide (((HV.out.2 y (List.mem_of_getElem? hy)).step B.out).step b8)
      obtain ⟨b, off, rfl, hb, hc⟩ := ((HU.out.1.step B.out).step b8).get hx
      obtain ⟨b', off', rfl, hb', hc'⟩ := ((HV.out.1.step B.out).step b8).get hy
      have c0 := hc 0 _ rfl
      have c1 := hc 1 _ rfl
      have c2 := hc 2 _ rfl
      have c3 := hc 3 _ rfl
      have e0 := hc' 0 _ rfl
      have e1 := hc' 1 _ rfl
      have e2 := hc' 2 _ rfl
      have e3 := hc' 3 _ rfl
      rw [Nat.add_zero] at c0 e0
      have l0 : (0 : Int) ≤ (k : Int) := by omega
      have l1 : (k : Int) < (n : Int) := by omega
      have P := hide (And.intro c0 (And.intro c1 (And.intro c2 (And.intro c3 (And.intro e0 (And.intro e1 (And.intro e2 e3)))))))
      have HX := hide hx
      have HY := hide hy
      clear hc hc' hb hb' hx hy b8
      by_cases hxy : x.c = y.c
      · have t1 : (x.c != y.c) = false := by simp [hxy]
        have XY := hide hxy
        clear hxy
        go_wp2_with fail
        go_region_held3 (fun W => W.cell? ⟨b, off + k * 4, none⟩ = some (.int .i64 x.c) ∧ W.cell? ⟨b, off + k * 4 + 1, none⟩ = some (.bool x.x.s) ∧ W.cell? ⟨b, off + k * 4 + 2, none⟩ = some (sv x.x.u) ∧ W.cell? ⟨b, off + k * 4 + 3, none⟩ = some (sv x.x.t) ∧ W.cell? ⟨b', off' + k * 4, none⟩ = some (.int .i64 y.c) ∧ W.cell? ⟨b', off' + k * 4 + 1, none⟩ = some (.bool y.x.s) ∧ W.cell? ⟨b', off' + k * 4 + 2, none⟩ = some (sv y.x.u) ∧ W.cell? ⟨b', off' + k * 4 + 3, none⟩ = some (sv y.x.t))
          (exact P.out)
          (first
            | (go_at_call 19; refine Calls.mono (rsame_x RX.out RY.out) ?_; rintro e wx ⟨⟨b9, rfl, hb9⟩, bx⟩; have H9 := hide hb9; clear hb9; replace P := hide (And.intro (cell_keep P.out.1 bx) (And.intro (cell_keep P.out.2.1 bx) (And.intro (cell_keep P.out.2.2.1 bx) (And.intro (cell_keep P.out.2.2.2.1 bx) (And.intro (cell_keep P.out.2.2.2.2.1 bx) (And.intro (cell_keep P.out.2.2.2.2.2.1 bx) (And.intro (cell_keep P.out.2.2.2.2.2.2.1 bx) (cell_keep P.out.2.2.2.2.2.2.2 bx)))))))); have B9 := hide (Below.step B8.out B8.out.size bx)))
        all_goals
          clear P c0 c1 c2 c3 e0 e1 e2 e3
          cases b9
          · go_wp2_with fail
            go_ret
            exact ⟨⟨false, rfl, by
              constructor
              · intro h; cases h
              · intro h; exact H9.out.2 (tms_at h HX.out HY.out).2⟩, B9.out⟩
          · go_wp2_with fail
            exact ⟨⟨k + 1, by omega, by go_num, B9, hide (S.out.next HX.out HY.out XY.out (H9.out.1 (by simp)))⟩, by simp [intOf]; omega⟩
      · have t1 : (x.c != y.c) = true := by simp [hxy]
        have XY := hide hxy
        clear hxy
        have c9 : wr.cell? ⟨b, off + k * 4, none⟩ = some (.int .i64 x.c) := c0
        have e9 : wr.cell? ⟨b', off' + k * 4, none⟩ = some (.int .i64 y.c) := e0
        clear P c0 c1 c2 c3 e0 e1 e2 e3
        go_wp2_with fail
        go_quiet (fail)
        have Z9 := hide (show Below w.heap.size w (wr.drewN nq) from below_drewN B.out nq)
        generalize wr.drewN nq = w9 at *
        go_wp2_with fail
        go_ret
        exact ⟨⟨false, rfl, by
          constructor
          · intro h; cases h
          · intro h; exact absurd (tms_at h HX.out HY.out).1 XY.out⟩, Z9.out⟩
    · obtain rfl : k = n := by omega
      go_wp2_with fail
      go_ret
      exact ⟨⟨true, rfl, by
        constructor
        · intro _; exact S.out.done (by rw [← HN.out]; exact Nat.le_refl _) (by rw [← HN.out, ← HL.out])
        · intro _; rfl⟩, B.out⟩
set_option maxHeartbeats 1000000 in
theorem qnegs_any {w : World} {v : Value} {z : Int} {L : Nat} (h : Qi w v z L) (hL : L ≤ 800000000000) :
  Calls Tryz.prog 121 #[v] w (QRet w (-z) L) := by
 obtain ⟨u, rfl, hc⟩ := h
 obtain ⟨A, n, c, rfl⟩ := hc.iw.slice
 obtain ⟨s, hs⟩ : ∃ s, decide (z < 0) = s := ⟨_, rfl⟩
 have hzz : Hid (zi (!s) z.natAbs = -z) := hide (by
  unfold zi
  by_cases h : z < 0
  ·rw [decide_eq_true h] at hs; subst hs; simp only [Bool.not_true, Bool.false_eq_true, if_false]; omega
  ·rw [decide_eq_false h] at hs; subst hs; simp only [Bool.not_false, if_true]; omega)
 rw [hs]
 have a1 : Below w.heap.size w (w.alloc (qbox s (.slice A n c))) := (Below.refl _ _).alloc (Nat.le_refl _) _
 have a2 : Below w.heap.size w ((w.alloc (qbox s (.slice A n c))).alloc qblk) := a1.alloc (by simp) _
 have hz : Qb ((w.alloc (qbox s (.slice A n c))).alloc qblk) (w.heap.size + 1) := by have h := Qb.new (w.alloc (qbox s (.slice A n c))); simpa using h
 have HS := hide (show w.heap.size + 1 < ((w.alloc (qbox s (.slice A n c))).alloc qblk).heap.size by simp)
 have FM := hide (form_any (s := !s) (hc.step a2).iw hL hzz.out)
 have HA := hide a2
 have HZ := hide hz
 clear hc a1 a2 hz hs hzz
 go_enter Tryz.func121, Tryz.ntmps121
 go_wp2_with fail
 refine FM.out.mono ?_
 rintro e w2 ⟨v, rfl, qv, b2⟩
 obtain ⟨sg, A1, n1, c2, rfl, k0, k1, f0, f1, fin⟩ := q_ret (w0 := w) qv (HZ.out.step HS.out b2) (by omega) (HA.out.trans (b2.mono HA.out.size))
 have F := hide fin
 clear fin FM HA HZ HS qv b2
 go_wp2_with fail
 exact bodyPost_ret (qret rfl _ _ _ #[.bool sg, .slice A1 n1 c2] rfl rfl F.out.1) rfl F.out.2
set_option maxHeartbeats 4000000 in
theorem qsubs_any {w : World} {u v : Value} {a b : Int} {L M K : Nat} (hu : Qi w u a L) (hv : Qi w v b M) (hL : L ≤ K) (hM : M ≤ K) (hK : K ≤ 400000000000) :
  Calls Tryz.prog 93 #[u, v] w (QRet w (a - b) (K + 1)) := by
 obtain ⟨s, x, A, n, c, rfl, -, -, -⟩ := id hu.parts
 obtain ⟨t, y, D, m, d, rfl, -, -, -⟩ := id hv.parts
 obtain ⟨a3, z3, hsz, p0, p1, q0, q1⟩ := q_world w s t A D n c m d
 have HU := hide (hu.step a3)
 have HV := hide (hv.step a3)
 have HA := hide a3
 have HZ := hide z3
 have HS := hide (show w.heap.size + 1 + 1 < (((w.alloc (qbox s (.slice A n c))).alloc (qbox t (.slice D m d))).alloc qblk).heap.size by rw [hsz]; omega)
 clear hu hv a3 z3 hsz
 go_enter Tryz.func93, Tryz.ntmps93
 go_wp2_with fail
 generalize hW0 : ((w.alloc (qbox s (.slice A n c))).alloc (qbox t (.slice D m d))).alloc qblk = W0 at *
 have p0d : W0.drew.cell? ⟨w.heap.size, 0, none⟩ = some (.bool s) := p0
 have p1d : W0.drew.cell? ⟨w.heap.size, 1, none⟩ = some (.slice A n c) := p1
 have q0d : W0.drew.cell? ⟨w.heap.size + 1, 0, none⟩ = some (.bool t) := q0
 have q1d : W0.drew.cell? ⟨w.heap.size + 1, 1, none⟩ = some (.slice D m d) := q1
 have C := hide (qnegs_any (w := W0.drew) HV.out (show M ≤ 800000000000 by omega))
 go_region_held3 (fun W => W.cell? ⟨w.heap.size, 0, none⟩ = some (.bool s) ∧ W.cell? ⟨w.heap.size, 1, none⟩ = some (.slice A n c) ∧ W.cell? ⟨w.heap.size + 1, 0, none⟩ = some (.bool t) ∧ W.cell? ⟨w.heap.size + 1, 1, none⟩ = some (.slice D m d))
  (first
   | with_reducible exact ⟨p0d, p1d, q0d, q1d⟩
   | with_reducible exact ⟨cell_keep p0d b1, cell_keep p1d b1, cell_keep q0d b1, cell_keep q1d b1⟩
   | with_reducible exact ⟨cell_keep (cell_keep p0d b1) b2, cell_keep (cell_keep p1d b1) b2, cell_keep (cell_keep q0d b1) b2, cell_keep (cell_keep q1d b1) b2⟩
   | with_reducible exact ⟨cell_zset (cell_keep (cell_keep p0d b1) b2) (by simp <;> omega) _ _, cell_zset (cell_keep (cell_keep p1d b1) b2) (by simp <;> omega) _ _, cell_zset (cell_keep (cell_keep q0d b1) b2) (by simp <;> omega) _ _, cell_zset (cell_keep (cell_keep q1d b1) b2) (by simp <;> omega) _ _⟩)
  (first
   | (go_at_call 121; (with_reducible refine C.out.mono ?_); rintro e w1 ⟨nb, rfl, qn, b1⟩; have FM := hide (Int.sub_eq_add_neg ▸ qadd_any (K := K) (HU.out.step (below_of_drew b1)) qn hL hM hK))
   | (go_at_call 120; (with_reducible refine FM.out.mono ?_); rintro e w2 ⟨v, rfl, qv, b2⟩; obtain ⟨sg, A1, n1, c2, rfl, k0, k1, f0, f1, fin⟩ := q_ret (w0 := w) qv ((HZ.out.step HS.out (below_of_drew b1)).step (Nat.lt_of_lt_of_le HS.out b1.size) b2) (by omega) (HA.out.trans (((below_of_drew b1).trans (b2.mono b1.size)).mono HA.out.size))))
 all_goals
  have F := hide fin
  clear fin
  go_wp2_with fail
  exact bodyPost_ret (qret rfl _ _ _ #[.bool sg, .slice A1 n1 c2] rfl rfl F.out.1) rfl F.out.2
theorem zsg_subs (a b : Int) : zsg (a - b) = cmpZ a b := by
 unfold zsg cmpZ
 rcases Int.lt_trichotomy a b with h | h | h
 ·rw [if_neg (by omega), if_pos (by omega), if_pos h]
 ·rw [if_pos (by omega), if_neg (by omega), if_neg (by omega)]
 ·rw [if_neg (by omega), if_neg (by omega), if_neg (by omega), if_pos h]
set_option maxHeartbeats 4000000 in
theorem qcmps_any {w : World} {u v : Value} {a b : Int} {L M K : Nat} (hu : Qi w u a L) (hv : Qi w v b M) (hL : L ≤ K) (hM : M ≤ K) (hK : K ≤ 400000000000) :
  Calls Tryz.prog 66 #[u, v] w fun e w' => e = .returned (.int .i64 (cmpZ a b)) ∧ Below w.heap.size w w' := by
 obtain ⟨s, x, A, n, c, rfl, -, -, -⟩ := id hu.parts
 obtain ⟨t, y, D, m, d, rfl, -, -, -⟩ := id hv.parts
 have a1 : Below w.heap.size w (w.alloc (qbox s (.slice A n c))) := (Below.refl _ _).alloc (Nat.le_refl _) _
 have a2 : Below w.heap.size w ((w.alloc (qbox s (.slice A n c))).alloc (qbox t (.slice D m d))) := a1.alloc (by simp) _
 have C := hide (qsubs_any (hu.step a2) (hv.step a2) hL hM hK)
 have HA := hide a2
 rw [← zsg_subs]
 clear hu hv a1 a2
 go_enter Tryz.func66, Tryz.ntmps66
 go_wp2_with fail
 refine C.out.mono ?_
 rintro e w1 ⟨v, rfl, qv, b1⟩
 have H := hide qv
 have HA1 := hide (HA.out.trans (b1.mono HA.out.size))
 clear qv b1 C HA
 go_wp2_with fail
 refine (qsign_any H.out).mono ?_
 rintro e w2 ⟨rfl, b2⟩
 have HA2 := hide (HA1.out.trans (b2.mono HA1.out.size))
 clear H HA1 b2
 go_wp2_with fail
 go_ret
 exact ⟨rfl, HA2.out⟩
theorem cmpR_nums (r1 r2 : Rat) : cmpZ (r1.num * ((r2.den : Nat) : Int)) (r2.num * ((r1.den : Nat) : Int)) = cmpR r1 r2 := by
 rw [cmpR_mk r1.num r2.num r1.den r2.den (Nat.pos_of_ne_zero r1.den_nz) (Nat.pos_of_ne_zero r2.den_nz), Rat.mkRat_self, Rat.mkRat_self]
set_option maxHeartbeats 4000000 in
theorem rqcmp_s {w : World} {a b : Value} {r1 r2 : Rat} {L : Nat} (ha : Rf w a r1 L) (hb : Rf w b r2 L) (h1 : 1 ≤ L) (hL : L ≤ 10000000000) :
  Calls Tryz.prog 37 #[a, b] w fun e w' => e = .returned (.int .i64 (cmpR r1 r2)) ∧ Below w.heap.size w w' := by
 obtain ⟨s, A, n, c, D, m, d, rfl, ha⟩ := ha.parts
 obtain ⟨t, F, k, f, H, l, h, rfl, hb⟩ := hb.parts
 have b1 : Below w.heap.size w (w.alloc (fqbox s (.slice A n c) (.slice D m d))) := alloc_below w _
 have b2 : Below w.heap.size w ((w.alloc (fqbox s (.slice A n c) (.slice D m d))).alloc (fqbox t (.slice F k f) (.slice H l h))) := b1.alloc b1.size _
 have q1 : Fq ((w.alloc (fqbox s (.slice A n c) (.slice D m d))).alloc (fqbox t (.slice F k f) (.slice H l h))) w.heap.size s (.slice A n c) (.slice D m d) := (Fq.new w s (.slice A n c) (.slice D m d)).step (alloc_below _ _)
 have q2 : Fq ((w.alloc (fqbox s (.slice A n c) (.slice D m d))).alloc (fqbox t (.slice F k f) (.slice H l h))) (w.heap.size + 1) t (.slice F k f) (.slice H l h) := by
  have h9 := Fq.new (w.alloc (fqbox s (.slice A n c) (.slice D m d))) t (.slice F k f) (.slice H l h)
  rwa [show (w.alloc (fqbox s (.slice A n c) (.slice D m d))).heap.size = w.heap.size + 1 by simp] at h9
 have R0 := hide (And.intro (ha.split.1.step b2) (And.intro (ha.split.2.step b2) (And.intro (hb.split.1.step b2) (hb.split.2.step b2))))
 have P1 := hide q1
 have P2 := hide q2
 have B0 := hide b2
 have HE := hide (cmpR_nums r1 r2)
 rw [← HE.out]
 clear ha hb q1 q2 b1 b2 HE
 generalize r1.num = a1 at *
 generalize r1.den = e1 at *
 generalize r2.num = a2 at *
 generalize r2.den = e2 at *
 go_enter Tryz.func37, Tryz.ntmps37
 go_wp2_with fail
 generalize ((w.alloc (fqbox s (.slice A n c) (.slice D m d))).alloc (fqbox t (.slice F k f) (.slice H l h))) = W0 at *
 have b8 := (Below.refl W0.heap.size W0).drew
 have R := hide (And.intro (R0.out.1.step b8) (And.intro (R0.out.2.1.step b8) (And.intro (R0.out.2.2.1.step b8) (R0.out.2.2.2.step b8))))
 have Q1 := hide (P1.out.step b8)
 have Q2 := hide (P2.out.step b8)
 have B := hide (Below.step B0.out B0.out.size b8)
 clear R0 P1 P2 B0 b8
 go_region_held3 (fun W => (W.cell? ⟨w.heap.size, 0, none⟩ = some (.bool s) ∧ W.cell? ⟨w.heap.size, 1, none⟩ = some (.slice A n c) ∧ W.cell? ⟨w.heap.size, 2, none⟩ = some (.slice D m d)) ∧ (W.cell? ⟨w.heap.size + 1, 0, none⟩ = some (.bool t) ∧ W.cell? ⟨w.heap.size + 1, 1, none⟩ = some (.slice F k f) ∧ W.cell? ⟨w.heap.size + 1, 2, none⟩ = some (.slice H l h)))
  (exact ⟨⟨Q1.out.all.1, Q1.out.all.2.1, Q1.out.all.2.2.1⟩, Q2.out.all.1, Q2.out.all.2.1, Q2.out.all.2.2.1⟩)
  (first
   | (go_at_call 67; refine Calls.mono (rqtimes_any (z := a1) (q := ((e2 : Nat) : Int)) (L := L) ?_ ?_ (by omega)) ?_; (focus ((with_reducible exact R.out.1); done)); (focus ((with_reducible exact R.out.2.2.2); done)); rintro e wx ⟨vx, rfl, tx, bx⟩; have X1 := hide tx; replace R := hide (And.intro (R.out.1.step bx) (And.intro (R.out.2.1.step bx) (And.intro (R.out.2.2.1.step bx) (R.out.2.2.2.step bx)))); replace Q1 := hide (Q1.out.step bx); replace Q2 := hide (Q2.out.step bx); replace B := hide (Below.step B.out B.out.size bx); clear tx bx)
   | (go_at_call 67; refine Calls.mono (rqtimes_any (z := a2) (q := ((e1 : Nat) : Int)) (L := L) ?_ ?_ (by omega)) ?_; (focus ((with_reducible exact R.out.2.2.1); done)); (focus ((with_reducible exact R.out.2.1); done)); rintro e wx ⟨vy, rfl, tx, bx⟩; have X2 := hide tx; replace X1 := hide (X1.out.step bx); replace Q1 := hide (Q1.out.step bx); replace Q2 := hide (Q2.out.step bx); replace B := hide (Below.step B.out B.out.size bx); clear tx bx R)
   | (go_at_call 66; refine Calls.mono (qcmps_any (a := a1 * ((e2 : Nat) : Int)) (b := a2 * ((e1 : Nat) : Int)) (L := L + L) (M := L + L) (K := L + L) X1.out X2.out (by omega) (by omega) (by omega)) ?_; rintro e wx ⟨rfl, bx⟩; replace Q1 := hide (Q1.out.step bx); replace Q2 := hide (Q2.out.step bx); replace B := hide (Below.step B.out B.out.size bx); clear bx))
 all_goals
  clear Q1 Q2
  go_wp2_with fail
  go_ret
  exact ⟨rfl, B.out⟩
theorem samecons_x {w : World} {a b : Kx} {L M : Nat} (ha : Kc w a L) (hb : Kc w b M) :
  Calls Tryz.prog 36 #[kx a, kx b] w fun e w' => BRet (a.s = b.s ∧ tms a.d = tms b.d ∧ a.x.r = b.x.r) e ∧ Below w.heap.size w w' := by
 have b2 : Below w.heap.size w ((w.alloc (kbox a)).alloc (kbox b)) := ((Below.refl _ _).alloc (Nat.le_refl _) _).alloc (by simp) _
 have P := hide (show Kq ((w.alloc (kbox a)).alloc (kbox b)) w.heap.size a from (Kq.new w a).step ((Below.refl _ _).alloc (Nat.le_refl _) (kbox b)))
 have P2 := hide (show Kq ((w.alloc (kbox a)).alloc (kbox b)) (w.heap.size + 1) b by
  have h := Kq.new (w.alloc (kbox a)) b
  have h2 : Kq ((w.alloc (kbox a)).alloc (kbox b)) (w.heap.size + 1) b := by simpa using h
  exact h2)
 have HA := hide (ha.step b2)
 have HB := hide (hb.step b2)
 have B := hide b2
 clear ha hb b2
 obtain ⟨p0, p1, p2, p3, p4⟩ := P.out.all
 obtain ⟨q0, q1, q2, q3, q4⟩ := P2.out.all
 go_enter Tryz.func36, Tryz.ntmps36
 by_cases hs : a.s = b.s
 case neg =>
  have t1 : (a.s == b.s) = false := beq_eq_false_iff_ne.2 hs
  have H := hide hs
  clear hs
  go_wp2_with fail
  go_ret
  exact ⟨⟨false, rfl, by constructor <;> intro h; cases h; exact absurd h.1 H.out⟩, B.out⟩
 have t1 : (a.s == b.s) = true := beq_iff_eq.2 hs
 have H := hide hs
 clear hs
 go_wp2_with fail
 refine (vsame_x HA.out.1 HB.out.1).mono ?_
 rintro e w1 ⟨⟨o, rfl, ho⟩, bx⟩
 have H1 := hide ho
 replace P := hide (P.out.step bx)
 replace P2 := hide (P2.out.step bx)
 replace HA := hide (HA.out.step bx)
 replace HB := hide (HB.out.step bx)
 replace B := hide (Below.step B.out B.out.size bx)
 clear ho bx p0 p1 p2 p3 p4 q0 q1 q2 q3 q4
 obtain ⟨p0, p1, p2, p3, p4⟩ := P.out.all
 obtain ⟨q0, q1, q2, q3, q4⟩ := P2.out.all
 cases o
 ·go_wp2_with fail
  go_ret
  exact ⟨⟨false, rfl, by constructor <;> intro h; cases h; exact absurd (H1.out.2 h.2.1) (by simp)⟩, B.out⟩
 go_wp2_with fail
 refine (rsame_x HA.out.2.1 HB.out.2.1).mono ?_
 rintro e w1 ⟨⟨o, rfl, ho⟩, bx⟩
 have H2 := hide ho
 replace B := hide (Below.step B.out B.out.size bx)
 clear ho bx p0 p1 p2 p3 p4 q0 q1 q2 q3 q4
 go_wp2_with fail
 go_ret
 exact ⟨⟨_, rfl, by rw [H2.out]; exact ⟨fun h => ⟨H.out, H1.out.1 (by simp), h⟩, fun h => h.2.2⟩⟩, B.out⟩
abbrev k1 (s : Int) (g : Nat) (x y : Rx) : Kx := ⟨s, (some ⟨g, 0, none⟩, 1, 1), [⟨0, x⟩], y⟩
end Go.Proofs.YtnhlomphdighnaaGreat
