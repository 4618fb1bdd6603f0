
/-
  Fractions: whose memory the results are; the reference: Spoil.
-/
import Derived.Test.YtpfeacdhplbblaaGreatBundleF
import Derived.Test.YtpfeacdhplbblaaGreatBundleG
import Derived.Test.YtpfeacdhplbblaaGreatLat2


namespace Go.Proofs.YtpfeacdhplbblaaGreat
open Go.RowKit Go.Proofs.YtpfeacdhplbblaaGreat.Num
set_option linter.unusedVariables false
set_option linter.unusedSimpArgs false
set_option maxRecDepth 100000
theorem own_lt {w : World} {B : Nat} {v : Value} {xs : List Nat} (h : Own .u64 62 w B v xs) : ∀ g, v.ownBlock = some g → g < w.heap.size := by
  rcases h with ⟨rfl, _⟩ | ⟨g', cap, C, rfl, hB, hr, _⟩
  · intro g h; simp [Value.ownBlock] at h
  · intro g h; simp [Value.ownBlock] at h; subst h; exact hr.lt
theorem own_ge {w : World} {B : Nat} {v : Value} {xs : List Nat} (h : Own .u64 62 w B v xs) : ∀ g, v.ownBlock = some g → B ≤ g := by
  rcases h with ⟨rfl, _⟩ | ⟨g', cap, C, rfl, hB, hr, _⟩
  · intro g h; simp [Value.ownBlock] at h
  · intro g h; simp [Value.ownBlock] at h; subst h; exact hB
theorem own_fresh {w : World} {B : Nat} {u v : Value} {xs : List Nat} (hu : ∀ g, u.ownBlock = some g → g < B) (h : Own .u64 62 w B v xs) : ∀ g, u.ownBlock = some g → v.ownBlock ≠ some g := fun g hg hv => by
  have := hu g hg
  have := own_ge h g hv
  omega
theorem Own.slice {w : World} {B : Nat} {u : Value} {xs : List Nat} (h : Own .u64 62 w B u xs) : ∃ A n c, u = .slice A n c := by
  obtain ⟨A, c, e, -⟩ := h.form
  exact ⟨A, _, c, e⟩
def Nt (w : World) (g : Nat) : Prop := ∃ cs T, w.heap[g]? = some (.cells cs T (0, 0)) ∧ T ≠ 62
theorem Nt.set {w : World} {g : Nat} (h : Nt w g) (j : Nat) (v : Value) : Nt (w.setCell ⟨g, j, none⟩ v) g := by
  obtain ⟨cs, T, hh, hT⟩ := h
  exact ⟨cs.setIfInBounds j v, T, by simp [World.setCell, Array.getElem?_modify, hh], hT⟩
theorem Own.cset {w : World} {B g : Nat} {v : Value} {xs : List Nat} (h : Own .u64 62 w B v xs) (hz : Nt w g) (j : Nat) (a : Value) : Own .u64 62 (w.setCell ⟨g, j, none⟩ a) B v xs := by
  rcases h with h | ⟨k, cap, C, rfl, hB, hr, r⟩
  · exact .inl h
  · have hne : k ≠ g := by
      rintro rfl
      obtain ⟨cs, hh, -⟩ := hr
      obtain ⟨cs', T, hz', hT⟩ := hz
      rw [hz'] at hh
      injection hh with hh
      injection hh with h1 h2
      exact hT h2
    exact .inr ⟨k, cap, C, rfl, hB, hr.far (by exact hne) a, r⟩
theorem Zb.nt {w : World} {g : Nat} (h : Zb w g) : Nt w g := ⟨_, _, h, by decide⟩
theorem Rb.nt {w : World} {g : Nat} (h : Rb w g) : Nt w g := ⟨_, _, h, by decide⟩
def RoRet (w : World) (r : Rat) (L : Nat) (e : Ending) (w' : World) : Prop := ∃ s u t, e = .returned (rv s u t) ∧ Rc w' (rv s u t) r L ∧ Own .u64 62 w' w.heap.size u (cn Q r.num.natAbs) ∧ Own .u64 62 w' w.heap.size t (cn Q r.den) ∧ (∀ g, u.ownBlock = some g → t.ownBlock ≠ some g) ∧ Below w.heap.size w w'
theorem rr_put_o {w0 w : World} {sg : Bool} {A D : Option Addr} {n c m d : Nat} {r : Rat} {L g : Nat} (h : Rc w (rv sg (.slice A n c) (.slice D m d)) r L) (o1 : Own .u64 62 w w0.heap.size (.slice A n c) (cn Q r.num.natAbs)) (o2 : Own .u64 62 w w0.heap.size (.slice D m d) (cn Q r.den))
    (dj : ∀ g, (Value.slice A n c).ownBlock = some g → (Value.slice D m d).ownBlock ≠ some g) (hz : Rb w g) (hg0 : w0.heap.size ≤ g) (hb : Below w0.heap.size w0 w) :
    w.cell? ⟨g, 0, none⟩ = some (.bool false) ∧ w.cell? ⟨g, 1, none⟩ = some (.slice none 0 0) ∧ w.cell? ⟨g, 2, none⟩ = some (.slice none 0 0) ∧
      w.frozen? ⟨g, 0, none⟩ = false ∧ w.frozen? ⟨g, 1, none⟩ = false ∧ w.frozen? ⟨g, 2, none⟩ = false ∧
      ((((w.setCell ⟨g, 0, none⟩ (.bool sg)).setCell ⟨g, 1, none⟩ (.slice A n c)).setCell ⟨g, 2, none⟩ (.slice D m d)).heap[g]? = some (.cells #[.bool sg, .slice A n c, .slice D m d] 36 (0, 0)) ∧
        RoRet w0 r L (.returned (rv sg (.slice A n c) (.slice D m d))) (((w.setCell ⟨g, 0, none⟩ (.bool sg)).setCell ⟨g, 1, none⟩ (.slice A n c)).setCell ⟨g, 2, none⟩ (.slice D m d))) := by
  obtain ⟨k0, k1, k2, f0, f1, f2, hh, v, e, hc, hbel⟩ := rret_put h hz hg0 hb
  injection e with e
  subst e
  have n0 := hz.nt
  have n1 := n0.set 0 (.bool sg)
  have n2 := n1.set 1 (.slice A n c)
  exact ⟨k0, k1, k2, f0, f1, f2, hh, sg, _, _, rfl, hc, ((o1.cset n0 0 _).cset n1 1 _).cset n2 2 _, ((o2.cset n0 0 _).cset n1 1 _).cset n2 2 _, dj, hbel⟩
set_option maxHeartbeats 1000000 in
theorem zmake_own {w : World} {s : Bool} {u : Value} {x L : Nat} (h : Nw w u x L) (hL : L ≤ 17592186044000) :
    Calls Tryz.prog 89 #[.bool s, u] w fun e w' => ∃ sg A n c, e = .returned (zv sg (.slice A n c)) ∧ Zi w' (zv sg (.slice A n c)) (zi s x) L ∧ Own .u64 62 w' w.heap.size (.slice A n c) (cn Q x) ∧ Below w.heap.size w w' := by
  have a0 : Below w.heap.size w (w.alloc zblk) := (Below.refl _ _).alloc (Nat.le_refl _) _
  have H := hide (h.step a0)
  have HA := hide a0
  clear h a0
  go_enter Tryz.func89, Tryz.ntmps89
  go_wp2_with fail
  refine (ntrim_n H.out (by omega)).mono ?_
  rintro e w1 ⟨r, rfl, o1, c1, b1⟩
  have z1 := (Zb.new w).step (by simp) b1
  have O1 := hide (o1.mono HA.out.size)
  have Z1 := hide z1
  obtain ⟨sg, A, n, c, rfl, hsg, hcall⟩ := signed_fit (w0 := w) (s := s) c1 z1 (Nat.le_refl _) (HA.out.trans (b1.mono HA.out.size))
  have HC := hide hcall
  clear c1 b1 H HA hcall hsg o1 z1
  go_wp2_with fail
  refine HC.out.mono ?_
  rintro e w2 ⟨rfl, b2, k0, k1, f0, f1, hh, v, e, hc, hbel⟩
  injection e with e
  subst e
  have z2 := Z1.out.step (Zb.lt Z1.out) b2
  have o2 := ((O1.out.step b2).cset z2.nt 0 (.bool sg)).cset (z2.nt.set 0 (.bool sg)) 1 (.slice A n c)
  have F := hide (And.intro hh (And.intro (hc.zi rfl) (And.intro o2 hbel)))
  clear HC O1 Z1 z2 o2 hh hc hbel b2
  go_wp2_with fail
  exact bodyPost_ret (zret rfl _ _ w.heap.size #[.bool sg, .slice A n c] rfl rfl F.out.1) rfl ⟨sg, A, n, c, rfl, F.out.2.1, F.out.2.2.1, F.out.2.2.2⟩
theorem rc_of {w : World} {sg : Bool} {u t : Value} {r : Rat} {L : Nat} (h : Zi w (zv sg u) r.num L) (ht : Cw w t r.den L) : Rc w (rv sg u t) r L := by
  obtain ⟨u', e, hi⟩ := h
  injection e with e
  have e2 : sg = decide (r.num < 0) ∧ u = u' := by simpa using e
  obtain ⟨rfl, rfl⟩ := e2
  exact ⟨u, t, rfl, hi, ht⟩
set_option maxHeartbeats 2000000 in
theorem reduce_own {w : World} {s : Bool} {u v : Value} {x y L : Nat} (hu : Nw w u x L) (hv : Nw w v y L) (hy : 0 < y) (hL : L ≤ 17592186044000) :
    Calls Tryz.prog 56 #[.bool s, u, v] w (RoRet w (mkRat (zi s x) y) L) := by
  have a0 : Below w.heap.size w (w.alloc rblk) := (Below.refl _ _).alloc (Nat.le_refl _) _
  obtain ⟨hn, hd⟩ := mk_num (s := s) (x := x) hy
  have HN := hide hn
  have HD := hide hd
  have HG := hide (Nat.gcd_pos_of_pos_right x hy)
  have U := hide (hu.step a0)
  have V := hide (hv.step a0)
  have B := hide a0
  have Z := hide (Rb.new w)
  clear hu hv a0 hn hd hy
  go_enter Tryz.func56, Tryz.ntmps56
  go_wp2_with fail
  refine (gcd_c U.out V.out hL).mono ?_
  rintro e w1 ⟨g, rfl, -, cg, b⟩
  have U := hide (U.out.step b)
  have V := hide (V.out.step b)
  have B := hide (Below.step B.out B.out.size b)
  have Z := hide (Z.out.step b)
  have CG := hide cg
  clear b cg
  go_wp2_with fail
  refine (ndivmod U.out CG.out.nw hL HG.out).mono ?_
  rintro e w2 ⟨q1, r1, rfl, -, -, -, c1, -, b⟩
  have V := hide (V.out.step b)
  have CG := hide (CG.out.step b)
  have B := hide (Below.step B.out B.out.size b)
  have Z := hide (Z.out.step b)
  have C1 := hide c1
  clear b c1 U
  go_wp2_with fail
  refine (ndivmod V.out CG.out.nw hL HG.out).mono ?_
  rintro e w3 ⟨q2, r2, rfl, oq2, -, -, c2, -, b⟩
  have OD := hide (oq2.mono B.out.size)
  have LD := hide (own_lt oq2)
  clear oq2
  have C1 := hide (C1.out.step b)
  have B := hide (Below.step B.out B.out.size b)
  have Z := hide (Z.out.step b)
  have C2 := hide c2
  clear b c2 V CG
  go_wp2_with fail
  refine (zmake_own (s := s) C1.out.nw hL).mono ?_
  rintro e w4 ⟨sg, A, n, c, rfl, z4, o4, b⟩
  obtain ⟨D, m, d, rfl⟩ := OD.out.slice
  have hR : Rc w4 (rv sg (.slice A n c) (.slice D m d)) (mkRat (zi s x) y) L := rc_of (by rw [HN.out]; exact z4) (by rw [HD.out]; exact C2.out.step b)
  obtain ⟨k0, k1, k2, f0, f1, f2, fin⟩ := rr_put_o (w0 := w) hR (by rw [HN.out, zi_abs]; exact o4.mono B.out.size) (by rw [HD.out]; exact OD.out.step b) (fun g hg hd => own_fresh LD.out o4 g hd hg) (Z.out.step b) (Nat.le_refl _) (Below.step B.out B.out.size b)
  have F := hide fin
  clear fin b z4 C1 C2 B Z o4 OD LD hR
  go_wp2_with fail
  exact bodyPost_ret (rret rfl _ _ w.heap.size #[.bool sg, .slice A n c, .slice D m d] rfl rfl F.out.1) rfl F.out.2
set_option maxHeartbeats 2000000 in
theorem over_own {w : World} {s t : Bool} {u v : Value} {x y L : Nat} (hu : Nw w u x L) (hv : Nw w v y L) (hy : 0 < y) (hL : L ≤ 17592186044000) :
    Calls Tryz.prog 39 #[zv s u, zv t v] w (RoRet w (mkRat (zi s x) y) L) := by
  obtain ⟨A, n, c, rfl⟩ := hu.slice
  obtain ⟨D, m, d, rfl⟩ := hv.slice
  obtain ⟨b2, y1, y2⟩ := box2 w s t A D n c m d
  have b3 : Below w.heap.size w (((w.alloc (zbox s (.slice A n c))).alloc (zbox t (.slice D m d))).alloc rblk) := b2.alloc (by simp; omega) _
  have hz : Rb (((w.alloc (zbox s (.slice A n c))).alloc (zbox t (.slice D m d))).alloc rblk) (w.heap.size + 1 + 1) := by have h := Rb.new ((w.alloc (zbox s (.slice A n c))).alloc (zbox t (.slice D m d))); simpa using h
  have RC := hide (reduce_own (s := s) (hu.step b3) (hv.step b3) hy hL)
  have HB := hide b3
  have HZ := hide hz
  clear hu hv b2 b3 y1 y2 hz hy
  go_enter Tryz.func39, Tryz.ntmps39
  go_wp2_with fail
  refine RC.out.mono ?_
  rintro e w1 ⟨sg, u9, t9, rfl, c1, o1, o2, dj, b1⟩
  obtain ⟨A1, n1, c1', rfl⟩ := o1.slice
  obtain ⟨D1, m1, d1, rfl⟩ := o2.slice
  obtain ⟨k0, k1, k2, f0, f1, f2, fin⟩ := rr_put_o (w0 := w) c1 (o1.mono HB.out.size) (o2.mono HB.out.size) dj (HZ.out.step b1) (by omega) (Below.step HB.out HB.out.size b1)
  clear o1 o2 dj
  have F := hide fin
  clear fin RC b1 c1 HZ HB
  go_wp2_with fail
  exact bodyPost_ret (rret rfl _ _ _ #[.bool sg, .slice A1 n1 c1', .slice D1 m1 d1] rfl rfl F.out.1) rfl F.out.2
theorem over_own_a {w : World} {u v : Value} {p : Int} {q L : Nat} (hu : Za w u p L) (hv : Za w v (q : Int) L) (hq : 0 < q) (hL : L ≤ 17592186044000) :
    Calls Tryz.prog 39 #[u, v] w (RoRet w (mkRat p q) L) := by
  obtain ⟨s, u, x, rfl, hu, rfl⟩ := hu
  obtain ⟨t, v, y, rfl, hv, hy⟩ := hv
  have e : y = q := by have := zi_abs t y; rw [hy] at this; omega
  subst e
  exact over_own hu hv hq hL
theorem own_le {a b c : Nat} (h : a ≤ b) (k : b ≤ c) : a ≤ c := Nat.le_trans h k
end Go.Proofs.YtpfeacdhplbblaaGreat
