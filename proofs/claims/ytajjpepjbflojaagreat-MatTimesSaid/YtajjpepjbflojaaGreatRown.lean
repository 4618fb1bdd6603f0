/-
  Fractions: whose memory the results are; the reference: Spoil.
-/
import Derived.Test.YtajjpepjbflojaaGreatBundleF
import Derived.Test.YtajjpepjbflojaaGreatBundleG
import Derived.Test.YtajjpepjbflojaaGreatLat2


namespace Go.Proofs.YtajjpepjbflojaaGreat
open Go.RowKit Go.Proofs.YtajjpepjbflojaaGreat.Num
set_option linter.unusedVariables false
set_option linter.unusedSimpArgs false
set_option maxRecDepth 100000

theorem own_lt {w : World} {B : Nat} {v : Value} {xs : List Nat} (h : Own .u64 124 w B v xs) : ∀ g, v.ownBlock = some g → g < w.heap.size := by
  rcases h with ⟨rfl, _⟩ | ⟨g', cap, C, rfl, hB, hr, _⟩
  · intro g h; simp [Value.ownBlock] at h
  · intro g h; simp [Value.ownBlock] at h; subst h; exact hr.lt
theorem own_ge {w : World} {B : Nat} {v : Value} {xs : List Nat} (h : Own .u64 124 w B v xs) : ∀ g, v.ownBlock = some g → B ≤ g := by
  rcases h with ⟨rfl, _⟩ | ⟨g', cap, C, rfl, hB, hr, _⟩
  · intro g h; simp [Value.ownBlock] at h
  · intro g h; simp [Value.ownBlock] at h; subst h; exact hB
theorem own_fresh {w : World} {B : Nat} {u v : Value} {xs : List Nat} (hu : ∀ g, u.ownBlock = some g → g < B) (h : Own .u64 124 w B v xs) : ∀ g, u.ownBlock = some g → v.ownBlock ≠ some g := fun g hg hv => by
  have := hu g hg
  have := own_ge h g hv
  omega
theorem own_ne {u v : Value} (h : ∀ g, u.ownBlock = some g → v.ownBlock ≠ some g) : v.ownBlock = none ∨ v.ownBlock ≠ u.ownBlock := by
  cases hv : v.ownBlock with
  | none => exact .inl rfl
  | some g => exact .inr (fun e => h g e.symm hv)
theorem Own.slice {w : World} {B : Nat} {u : Value} {xs : List Nat} (h : Own .u64 124 w B u xs) : ∃ A n c, u = .slice A n c := by
  obtain ⟨A, c, e, -⟩ := h.form
  exact ⟨A, _, c, e⟩
/-- The block g holds cells that are no list of words. -/
def Nt (w : World) (g : Nat) : Prop := ∃ cs T, w.heap[g]? = some (.cells cs T (0, 0)) ∧ T ≠ 124
theorem Nt.set {w : World} {g : Nat} (h : Nt w g) (j : Nat) (v : Value) : Nt (w.setCell ⟨g, j, none⟩ v) g := by
  obtain ⟨cs, T, hh, hT⟩ := h
  exact ⟨cs.setIfInBounds j v, T, by simp [World.setCell, Array.getElem?_modify, hh], hT⟩
theorem Own.cset {w : World} {B g : Nat} {v : Value} {xs : List Nat} (h : Own .u64 124 w B v xs) (hz : Nt w g) (j : Nat) (a : Value) : Own .u64 124 (w.setCell ⟨g, j, none⟩ a) B v xs := by
  rcases h with h | ⟨k, cap, C, rfl, hB, hr, r⟩
  · exact .inl h
  · have hne : k ≠ g := by
      rintro rfl
      obtain ⟨cs, hh, -⟩ := hr
      obtain ⟨cs', T, hz', hT⟩ := hz
      rw [hz'] at hh
      injection hh with hh
      injection hh with h1 h2
      exact hT h2
    exact .inr ⟨k, cap, C, rfl, hB, hr.far (by exact hne) a, r⟩
theorem Zb.nt {w : World} {g : Nat} (h : Zb w g) : Nt w g := ⟨_, _, h, by decide⟩
theorem Rb.nt {w : World} {g : Nat} (h : Rb w g) : Nt w g := ⟨_, _, h, by decide⟩
/-- What a call leaves that answers a fraction in memory of its own. -/
def RoRet (w : World) (r : Rat) (L : Nat) (e : Ending) (w' : World) : Prop := ∃ s u t, e = .returned (rv s u t) ∧ Rc w' (rv s u t) r L ∧ Own .u64 124 w' w.heap.size u (cn Q r.num.natAbs) ∧ Own .u64 124 w' w.heap.size t (cn Q r.den) ∧ (∀ g, u.ownBlock = some g → t.ownBlock ≠ some g) ∧ Below w.heap.size w w'
theorem rr_put_o {w0 w : World} {sg : Bool} {A D : Option Addr} {n c m d : Nat} {r : Rat} {L g : Nat} (h : Rc w (rv sg (.slice A n c) (.slice D m d)) r L) (o1 : Own .u64 124 w w0.heap.size (.slice A n c) (cn Q r.num.natAbs)) (o2 : Own .u64 124 w w0.heap.size (.slice D m d) (cn Q r.den))
    (dj : ∀ g, (Value.slice A n c).ownBlock = some g → (Value.slice D m d).ownBlock ≠ some g) (hz : Rb w g) (hg0 : w0.heap.size ≤ g) (hb : Below w0.heap.size w0 w) :
    w.cell? ⟨g, 0, none⟩ = some (.bool false) ∧ w.cell? ⟨g, 1, none⟩ = some (.slice none 0 0) ∧ w.cell? ⟨g, 2, none⟩ = some (.slice none 0 0) ∧
      w.frozen? ⟨g, 0, none⟩ = false ∧ w.frozen? ⟨g, 1, none⟩ = false ∧ w.frozen? ⟨g, 2, none⟩ = false ∧
      ((((w.setCell ⟨g, 0, none⟩ (.bool sg)).setCell ⟨g, 1, none⟩ (.slice A n c)).setCell ⟨g, 2, none⟩ (.slice D m d)).heap[g]? = some (.cells #[.bool sg, .slice A n c, .slice D m d] 26 (0, 0)) ∧
        RoRet w0 r L (.returned (rv sg (.slice A n c) (.slice D m d))) (((w.setCell ⟨g, 0, none⟩ (.bool sg)).setCell ⟨g, 1, none⟩ (.slice A n c)).setCell ⟨g, 2, none⟩ (.slice D m d))) := by
  obtain ⟨k0, k1, k2, f0, f1, f2, hh, v, e, hc, hbel⟩ := rret_put h hz hg0 hb
  injection e with e
  subst e
  have n0 := hz.nt
  have n1 := n0.set 0 (.bool sg)
  have n2 := n1.set 1 (.slice A n c)
  exact ⟨k0, k1, k2, f0, f1, f2, hh, sg, _, _, rfl, hc, ((o1.cset n0 0 _).cset n1 1 _).cset n2 2 _, ((o2.cset n0 0 _).cset n1 1 _).cset n2 2 _, dj, hbel⟩
set_option maxHeartbeats 1000000 in
theorem zmake_own {w : World} {s : Bool} {u : Value} {x L : Nat} (h : Nw w u x L) (hL : L ≤ 17592186044000) :
    Calls Tryz.prog 160 #[.bool s, u] w fun e w' => ∃ sg A n c, e = .returned (zv sg (.slice A n c)) ∧ Zi w' (zv sg (.slice A n c)) (zi s x) L ∧ Own .u64 124 w' w.heap.size (.slice A n c) (cn Q x) ∧ Below w.heap.size w w' := by
  have a0 : Below w.heap.size w (w.alloc zblk) := (Below.refl _ _).alloc (Nat.le_refl _) _
  have H := hide (h.step a0)
  have HA := hide a0
  clear h a0
  go_enter Tryz.func160, Tryz.ntmps160
  go_wp2_with fail
  refine (ntrim_n H.out (by omega)).mono ?_
  rintro e w1 ⟨r, rfl, o1, c1, b1⟩
  have z1 := (Zb.new w).step (by simp) b1
  have O1 := hide (o1.mono HA.out.size)
  have Z1 := hide z1
  obtain ⟨sg, A, n, c, rfl, hsg, hcall⟩ := signed_fit (w0 := w) (s := s) c1 z1 (Nat.le_refl _) (HA.out.trans (b1.mono HA.out.size))
  have HC := hide hcall
  clear c1 b1 H HA hcall hsg o1 z1
  go_wp2_with fail
  refine HC.out.mono ?_
  rintro e w2 ⟨rfl, b2, k0, k1, f0, f1, hh, v, e, hc, hbel⟩
  injection e with e
  subst e
  have z2 := Z1.out.step (Zb.lt Z1.out) b2
  have o2 := ((O1.out.step b2).cset z2.nt 0 (.bool sg)).cset (z2.nt.set 0 (.bool sg)) 1 (.slice A n c)
  have F := hide (And.intro hh (And.intro (hc.zi rfl) (And.intro o2 hbel)))
  clear HC O1 Z1 z2 o2 hh hc hbel b2
  go_wp2_with fail
  exact bodyPost_ret (zret rfl _ _ w.heap.size #[.bool sg, .slice A n c] rfl rfl F.out.1) rfl ⟨sg, A, n, c, rfl, F.out.2.1, F.out.2.2.1, F.out.2.2.2⟩
theorem rc_of {w : World} {sg : Bool} {u t : Value} {r : Rat} {L : Nat} (h : Zi w (zv sg u) r.num L) (ht : Cw w t r.den L) : Rc w (rv sg u t) r L := by
  obtain ⟨u', e, hi⟩ := h
  injection e with e
  have e2 : sg = decide (r.num < 0) ∧ u = u' := by simpa using e
  obtain ⟨rfl, rfl⟩ := e2
  exact ⟨u, t, rfl, hi, ht⟩

set_option maxHeartbeats 2000000 in
theorem reduce_own {w : World} {s : Bool} {u v : Value} {x y L : Nat} (hu : Nw w u x L) (hv : Nw w v y L) (hy : 0 < y) (hL : L ≤ 17592186044000) :
    Calls Tryz.prog 155 #[.bool s, u, v] w (RoRet w (mkRat (zi s x) y) L) := by
  have a0 : Below w.heap.size w (w.alloc rblk) := (Below.refl _ _).alloc (Nat.le_refl _) _
  obtain ⟨hn, hd⟩ := mk_num (s := s) (x := x) hy
  have HN := hide hn
  have HD := hide hd
  have HG := hide (Nat.gcd_pos_of_pos_right x hy)
  have U := hide (hu.step a0)
  have V := hide (hv.step a0)
  have B := hide a0
  have Z := hide (Rb.new w)
  clear hu hv a0 hn hd hy
  go_enter Tryz.func155, Tryz.ntmps155
  go_wp2_with fail
  refine (gcd_c U.out V.out hL).mono ?_
  rintro e w1 ⟨g, rfl, -, cg, b⟩
  have U := hide (U.out.step b)
  have V := hide (V.out.step b)
  have B := hide (Below.step B.out B.out.size b)
  have Z := hide (Z.out.step b)
  have CG := hide cg
  clear b cg
  go_wp2_with fail
  refine (ndivmod U.out CG.out.nw hL HG.out).mono ?_
  rintro e w2 ⟨q1, r1, rfl, -, -, -, c1, -, b⟩
  have V := hide (V.out.step b)
  have CG := hide (CG.out.step b)
  have B := hide (Below.step B.out B.out.size b)
  have Z := hide (Z.out.step b)
  have C1 := hide c1
  clear b c1 U
  go_wp2_with fail
  refine (ndivmod V.out CG.out.nw hL HG.out).mono ?_
  rintro e w3 ⟨q2, r2, rfl, oq2, -, -, c2, -, b⟩
  have OD := hide (oq2.mono B.out.size)
  have LD := hide (own_lt oq2)
  clear oq2
  have C1 := hide (C1.out.step b)
  have B := hide (Below.step B.out B.out.size b)
  have Z := hide (Z.out.step b)
  have C2 := hide c2
  clear b c2 V CG
  go_wp2_with fail
  refine (zmake_own (s := s) C1.out.nw hL).mono ?_
  rintro e w4 ⟨sg, A, n, c, rfl, z4, o4, b⟩
  obtain ⟨D, m, d, rfl⟩ := OD.out.slice
  have hR : Rc w4 (rv sg (.slice A n c) (.slice D m d)) (mkRat (zi s x) y) L := rc_of (by rw [HN.out]; exact z4) (by rw [HD.out]; exact C2.out.step b)
  obtain ⟨k0, k1, k2, f0, f1, f2, fin⟩ := rr_put_o (w0 := w) hR (by rw [HN.out, zi_abs]; exact o4.mono B.out.size) (by rw [HD.out]; exact OD.out.step b) (fun g hg hd => own_fresh LD.out o4 g hd hg) (Z.out.step b) (Nat.le_refl _) (Below.step B.out B.out.size b)
  have F := hide fin
  clear fin b z4 C1 C2 B Z o4 OD LD hR
  go_wp2_with fail
  exact bodyPost_ret (rret rfl _ _ w.heap.size #[.bool sg, .slice A n c, .slice D m d] rfl rfl F.out.1) rfl F.out.2

set_option maxHeartbeats 2000000 in
theorem over_own {w : World} {s t : Bool} {u v : Value} {x y L : Nat} (hu : Nw w u x L) (hv : Nw w v y L) (hy : 0 < y) (hL : L ≤ 17592186044000) :
    Calls Tryz.prog 98 #[zv s u, zv t v] w (RoRet w (mkRat (zi s x) y) L) := by
  obtain ⟨A, n, c, rfl⟩ := hu.slice
  obtain ⟨D, m, d, rfl⟩ := hv.slice
  obtain ⟨b2, y1, y2⟩ := box2 w s t A D n c m d
  have b3 : Below w.heap.size w (((w.alloc (zbox s (.slice A n c))).alloc (zbox t (.slice D m d))).alloc rblk) := b2.alloc (by simp; omega) _
  have hz : Rb (((w.alloc (zbox s (.slice A n c))).alloc (zbox t (.slice D m d))).alloc rblk) (w.heap.size + 1 + 1) := by have h := Rb.new ((w.alloc (zbox s (.slice A n c))).alloc (zbox t (.slice D m d))); simpa using h
  have RC := hide (reduce_own (s := s) (hu.step b3) (hv.step b3) hy hL)
  have HB := hide b3
  have HZ := hide hz
  clear hu hv b2 b3 y1 y2 hz hy
  go_enter Tryz.func98, Tryz.ntmps98
  go_wp2_with fail
  refine RC.out.mono ?_
  rintro e w1 ⟨sg, u9, t9, rfl, c1, o1, o2, dj, b1⟩
  obtain ⟨A1, n1, c1', rfl⟩ := o1.slice
  obtain ⟨D1, m1, d1, rfl⟩ := o2.slice
  obtain ⟨k0, k1, k2, f0, f1, f2, fin⟩ := rr_put_o (w0 := w) c1 (o1.mono HB.out.size) (o2.mono HB.out.size) dj (HZ.out.step b1) (by omega) (Below.step HB.out HB.out.size b1)
  clear o1 o2 dj
  have F := hide fin
  clear fin RC b1 c1 HZ HB
  go_wp2_with fail
  exact bodyPost_ret (rret rfl _ _ _ #[.bool sg, .slice A1 n1 c1', .slice D1 m1 d1] rfl rfl F.out.1) rfl F.out.2

theorem over_own_a {w : World} {u v : Value} {p : Int} {q L : Nat} (hu : Za w u p L) (hv : Za w v (q : Int) L) (hq : 0 < q) (hL : L ≤ 17592186044000) :
    Calls Tryz.prog 98 #[u, v] w (RoRet w (mkRat p q) L) := by
  obtain ⟨s, u, x, rfl, hu, rfl⟩ := hu
  obtain ⟨t, v, y, rfl, hv, hy⟩ := hv
  have e : y = q := by have := zi_abs t y; rw [hy] at this; omega
  subst e
  exact over_own hu hv hq hL
/-- A fraction of the call's own with its error 0. -/
def RqOwn (w : World) (r : Rat) (L : Nat) (e : Ending) (w' : World) : Prop := ∃ s u t, e = .returned (.tuple #[rv s u t, .int .i64 0]) ∧ Rc w' (rv s u t) r L ∧ Own .u64 124 w' w.heap.size u (cn Q r.num.natAbs) ∧ Own .u64 124 w' w.heap.size t (cn Q r.den) ∧ (∀ g, u.ownBlock = some g → t.ownBlock ≠ some g) ∧ Below w.heap.size w w'

set_option maxHeartbeats 4000000 in
theorem make_own {w : World} {u v : Value} {a b : Int} {L M : Nat} (hu : Za w u a L) (hv : Za w v b M) (hb0 : b ≠ 0) (hL : L ≤ 17592186044000) (hM : M ≤ 17592186044000) (hLM : L = M) :
    Calls Tryz.prog 147 #[u, v] w (RqOwn w ((a : Rat) / (b : Rat)) L) := by
  subst hLM
  obtain ⟨s, u, x, rfl, hu, rfl⟩ := hu
  obtain ⟨t, v, y, rfl, hv, rfl⟩ := hv
  obtain ⟨A, n, c, rfl⟩ := hu.slice
  obtain ⟨D, m, d, rfl⟩ := hv.slice
  obtain ⟨b2, ⟨y0, y1⟩, y2, y3⟩ := box2 w s t A D n c m d
  have b3 : Below w.heap.size w (((w.alloc (zbox s (.slice A n c))).alloc (zbox t (.slice D m d))).alloc rblk) := b2.alloc (by simp; omega) _
  have b4 : Below ((w.alloc (zbox s (.slice A n c))).alloc (zbox t (.slice D m d))).heap.size ((w.alloc (zbox s (.slice A n c))).alloc (zbox t (.slice D m d))) (((w.alloc (zbox s (.slice A n c))).alloc (zbox t (.slice D m d))).alloc rblk) := (Below.refl _ _).alloc (Nat.le_refl _) _
  have hz : Rb (((w.alloc (zbox s (.slice A n c))).alloc (zbox t (.slice D m d))).alloc rblk) (w.heap.size + 1 + 1) := by have h := Rb.new ((w.alloc (zbox s (.slice A n c))).alloc (zbox t (.slice D m d))); simpa using h
  have SG := hide (zsign_a (Za.of (s := t) (hv.step b3)) hM)
  have HB := hide b3
  have HZ := hide hz
  have hy : y ≠ 0 := zi_ne.1 hb0
  rw [quot_mk s t x y hy]
  have hsg : (zsg (zi t y) == 0) = false := beq_eq_false_iff_ne.2 (by unfold zsg; rw [if_neg hb0]; split <;> omega)
  have C0 := hide (cell_keep y0 b4)
  have C1 := hide (cell_keep y1 b4)
  have C2 := hide (cell_keep y2 b4)
  have C3 := hide (cell_keep y3 b4)
  have HU := hide (hu.step b3)
  have HV := hide (hv.step b3)
  have c2 := C2.out
  have c3 := C3.out
  clear hu hv b2 b3 b4 hz y0 y1 y2 y3
  go_enter Tryz.func147, Tryz.ntmps147
  go_wp2_with fail
  refine SG.out.mono ?_
  rintro e w1 ⟨rfl, b1⟩
  have k0 := cell_keep C0.out b1
  have k1 := cell_keep C1.out b1
  have k2 := cell_keep C2.out b1
  have k3 := cell_keep C3.out b1
  have RC := hide (reduce_own (s := (s != t)) (HU.out.step b1) (HV.out.step b1) (by omega) hL)
  have B1 := hide (Below.step HB.out HB.out.size b1)
  have Z1 := hide (HZ.out.step b1)
  clear SG HU HV HB HZ C0 C1 C2 C3 c2 c3 b1 hb0 hy
  go_wp2_with fail
  refine RC.out.mono ?_
  clear k0 k1 k2 k3 hsg
  rintro e w2 ⟨sg, u9, t9, rfl, c2, o1, o2, dj, b2⟩
  obtain ⟨A1, n1, c1', rfl⟩ := o1.slice
  obtain ⟨D1, m1, d1, rfl⟩ := o2.slice
  obtain ⟨k0, k1, k2, f0, f1, f2, fin⟩ := rr_put_o (w0 := w) c2 (o1.mono B1.out.size) (o2.mono B1.out.size) dj (Z1.out.step b2) (by omega) (Below.step B1.out B1.out.size b2)
  clear o1 o2 dj
  have F := hide fin
  clear fin RC c2 b2 Z1 B1
  go_wp2_with fail
  refine bodyPost_ret (rret2 rfl _ _ _ #[.bool sg, .slice A1 n1 c1', .slice D1 m1 d1] rfl rfl F.out.1) rfl ?_
  obtain ⟨-, s9, u9, t9, e, h1, h2, h3, h4, h5⟩ := F.out
  injection e with e
  exact ⟨s9, u9, t9, by rw [← e]; rfl, h1, h2, h3, h4, h5⟩

theorem own_le {a b c : Nat} (h : a ≤ b) (k : b ≤ c) : a ≤ c := Nat.le_trans h k

set_option maxHeartbeats 4000000 in
theorem ofint_own {w : World} {u : Value} {a : Int} {L : Nat} (hu : Za w u a L) (h1 : 1 ≤ L) (hL : L ≤ 17592186044000) :
    Calls Tryz.prog 124 #[u] w (RoRet w (a : Rat) L) := by
  obtain ⟨s, u, x, rfl, hu, rfl⟩ := hu
  obtain ⟨A, n, c, rfl⟩ := hu.slice
  rw [← Rat.mkRat_one]
  obtain ⟨b2, hz, p0, p1⟩ := i_world1 w s A n c
  have za : Za ((w.alloc (zbox s (.slice A n c))).alloc rblk).drew (zv s (.slice A n c)) (zi s x) L := Za.of (hu.step b2)
  have B := hide b2
  have Z := hide hz
  clear hu b2 hz
  go_enter Tryz.func124, Tryz.ntmps124
  go_wp2_with fail
  generalize hW0 : ((w.alloc (zbox s (.slice A n c))).alloc rblk) = W0 at *
  go_region_held3 (fun W => W.cell? ⟨w.heap.size, 0, none⟩ = some (.bool s) ∧ W.cell? ⟨w.heap.size, 1, none⟩ = some (.slice A n c))
    (first | with_reducible exact ⟨p0, p1⟩ | (refine ⟨?_, ?_⟩ <;> (repeat (first | (with_reducible assumption) | (with_reducible refine cell_keep ?_ (by with_reducible assumption)) | (with_reducible refine cell_rset ?_ (by simp <;> omega) _ _ _)))))
    (first
        | (go_at_call 125; refine Calls.mono (zof_any _ 1 (by omega) (by omega)) ?_; rintro e wx ⟨vx, rfl, tx, bx⟩; have ow := bx.size; replace tx := (Zi.za (Zi.more tx h1) : Za _ _ ((1 : Nat) : Int) L))
        | (go_at_call 98; refine Calls.mono (over_own_a (p := zi s x) (q := 1) (L := L) ?_ ?_ (by omega) hL) ?_; (focus ((repeat (first | (with_reducible assumption) | (with_reducible refine Za.step ?_ (by with_reducible assumption)))); done)); (focus ((repeat (first | (with_reducible assumption) | (with_reducible refine Za.step ?_ (by with_reducible assumption)))); done)); rintro e wx ⟨sg, u9, t9, rfl, c9', o1, o2, dj, bx⟩; have st : Below W0.drew.heap.size W0.drew wx := (by (repeat (first | (with_reducible assumption) | (with_reducible refine Below.step1 ?_ (by with_reducible assumption))))); obtain ⟨A9, n9, c9, rfl⟩ := o1.slice; obtain ⟨D9, m9, d9, rfl⟩ := o2.slice; obtain ⟨k0, k1, k2, f0, f1, f2, fin⟩ := rr_put_o (w0 := w) c9' (o1.mono (own_le B.out.size ow)) (o2.mono (own_le B.out.size ow)) dj (Z.out.step st) (by omega) (Below.step B.out B.out.size st)))
  all_goals
    have F9 := hide fin
    clear fin
    go_wp2_with fail
    exact bodyPost_ret (rret rfl _ _ _ #[.bool sg, .slice A9 n9 c9, .slice D9 m9 d9] rfl rfl F9.out.1) rfl F9.out.2

/-! ### Written over -/
theorem fx_put {W : World} {gb g : Nat} {s : Bool} {A D : Option Addr} {n c m d : Nat} (h : Fx W gb s A n c D m d) (hne : g ≠ gb) (j : Nat) (v : Value) : Fx (W.setCell ⟨g, j, none⟩ v) gb s A n c D m d := by
  obtain ⟨h0, h1, h2⟩ := h
  refine ⟨?_, ?_, ?_⟩ <;> rw [World.cell?_setCell_other _ _ _ _ (by intro e; injection e with e; exact hne e)] <;> assumption

set_option maxHeartbeats 2000000 in
theorem rspoil_nil_nil (s : Bool) (c d : Nat) (w : World) :
    Calls Tryz.prog 36 #[rv s (.slice none 0 c) (.slice none 0 d)] w fun e w' => e = .returned (.tuple #[]) ∧ ∃ w1, w.grownBy w1 (none) ∧ w1.grownBy w' (none) := by
  obtain ⟨b1, y0⟩ := fbox1 w s none 0 c none 0 d
  have hg1 : w.grownBy (w.alloc (rbox s (.slice none 0 c) (.slice none 0 d))) (none) := only_below (only_refl w _) b1 (Nat.le_refl _)
  clear b1
  go_enter Tryz.func36, Tryz.ntmps36
  obtain ⟨p0, p1, p2⟩ := id y0
  go_wp2_with fail
  generalize hW : (w.alloc (rbox s (.slice none 0 c) (.slice none 0 d))) = w1 at *
  clear hW
  generalize w.heap.size = gb at *
  clear p0 p1 p2
  have hX := hide y0
  go_loop [2] (fun iv => iv = .int .i64 0) (fun _ => 0)
  case atStart => rfl
  case round =>
    subst hrel
    obtain ⟨p0, p1, p2⟩ := hX.out
    go_wp2_with fail
    clear p0 p1 p2
    go_loop [3] (fun iv => iv = .int .i64 0) (fun _ => 0)
    case atStart => rfl
    case round =>
      subst hrel
      obtain ⟨p0, p1, p2⟩ := hX.out
      go_wp2_with fail
      go_end0
      exact ⟨rfl, _, hg1, only_refl _ _⟩

set_option maxHeartbeats 2000000 in
theorem rspoil_nil_row (s : Bool) (c d : Nat) (w : World) (m : Nat) (h : Nat) (E : Array Value) (ys : List Nat) (hy : Row .u64 124 w h 0 E ys) (hym : ys.length = m) (hm : m ≤ maxLen) :
    Calls Tryz.prog 36 #[rv s (.slice none 0 c) (.slice (some ⟨h, 0, none⟩) m d)] w fun e w' => e = .returned (.tuple #[]) ∧ ∃ w1, w.grownBy w1 (none) ∧ w1.grownBy w' (some h) := by
  unfold maxLen at hm
  have Hy := hide hym
  have hnh : h ≠ w.heap.size := by have := hy.lt; omega
  obtain ⟨b1, y0⟩ := fbox1 w s none 0 c (some ⟨h, 0, none⟩) m d
  have hy1 := hy.alloc (rbox s (.slice none 0 c) (.slice (some ⟨h, 0, none⟩) m d))
  have hg1 : w.grownBy (w.alloc (rbox s (.slice none 0 c) (.slice (some ⟨h, 0, none⟩) m d))) (none) := only_below (only_refl w _) b1 (Nat.le_refl _)
  clear b1 hy hym
  go_enter Tryz.func36, Tryz.ntmps36
  obtain ⟨p0, p1, p2⟩ := id y0
  go_wp2_with fail
  generalize hW : (w.alloc (rbox s (.slice none 0 c) (.slice (some ⟨h, 0, none⟩) m d))) = w1 at *
  clear hW
  generalize w.heap.size = gb at *
  clear p0 p1 p2
  have hX := hide y0
  have hy2 := hide hy1
  clear hy1
  go_loop [2] (fun iv => iv = .int .i64 0) (fun _ => 0)
  case atStart => rfl
  case round =>
    subst hrel
    obtain ⟨p0, p1, p2⟩ := hX.out
    go_wp2_with fail
    clear p0 p1 p2
    go_loopw [3] (fun iv wr => ∃ (k : Nat) (us : List Nat), k ≤ m ∧ iv = .int .i64 (k : Int) ∧ Hid (us.length = m) ∧ Row .u64 124 wr h 0 E us ∧ Fx wr gb s none 0 c (some ⟨h, 0, none⟩) m d ∧ w1.grownBy wr (some h)) (fun iv _ => m - (intOf iv).toNat)
    case atStart => exact ⟨0, ys, Nat.zero_le _, rfl, Hy, hy2.out, hX.out, only_refl _ _⟩
    case round =>
      obtain ⟨k, us, hk, rfl, hu, hrow, hX0, hg⟩ := hrel
      obtain ⟨x0, x1, x2⟩ := id hX0
      by_cases hlt : k < m
      · have hkl : k < us.length := by rw [hu.out]; exact hlt
        obtain ⟨v0, hc⟩ : ∃ v0 : Int, wr.cell? ⟨h, 0 + k, none⟩ = some (.int .u64 v0) := ⟨_, hrow.cell hkl⟩
        have hf := hrow.frozen (0 + k)
        have hs := hrow.set_ hkl 238
        rw [Nat.zero_add] at hc hf hs
        have hg2 := only_set (p := ⟨h, k, none⟩) hg rfl (.int .u64 238)
        have hu2 : Hid ((us.set k 238).length = m) := hide (by rw [List.length_set]; exact hu.out)
        have hx := hide (fx_put hX0 hnh k (.int .u64 238))
        clear hkl hrow hg hu hX0
        go_wp2_with fail
        go_roundw
        case rel => exact ⟨k + 1, _, by omega, by go_num, hu2, hs, hx.out, hg2⟩
        case measure => simp [intOf]; omega
      · obtain rfl : m = k := by omega
        go_wp2_with fail
        go_end0
        exact ⟨rfl, _, hg1, hg⟩

set_option maxHeartbeats 2000000 in
theorem rspoil_row_nil (s : Bool) (c d : Nat) (w : World) (n : Nat) (g : Nat) (C : Array Value) (zs : List Nat) (hr : Row .u64 124 w g 0 C zs) (hzn : zs.length = n) (hn : n ≤ maxLen) :
    Calls Tryz.prog 36 #[rv s (.slice (some ⟨g, 0, none⟩) n c) (.slice none 0 d)] w fun e w' => e = .returned (.tuple #[]) ∧ ∃ w1, w.grownBy w1 (some g) ∧ w1.grownBy w' (none) := by
  unfold maxLen at hn
  have Hz := hide hzn
  have hng : g ≠ w.heap.size := by have := hr.lt; omega
  obtain ⟨b1, y0⟩ := fbox1 w s (some ⟨g, 0, none⟩) n c none 0 d
  have hr1 := hr.alloc (rbox s (.slice (some ⟨g, 0, none⟩) n c) (.slice none 0 d))
  have hg1 : w.grownBy (w.alloc (rbox s (.slice (some ⟨g, 0, none⟩) n c) (.slice none 0 d))) (some g) := only_below (only_refl w _) b1 (Nat.le_refl _)
  clear b1 hr hzn
  go_enter Tryz.func36, Tryz.ntmps36
  obtain ⟨p0, p1, p2⟩ := id y0
  go_wp2_with fail
  generalize hW : (w.alloc (rbox s (.slice (some ⟨g, 0, none⟩) n c) (.slice none 0 d))) = w1 at *
  clear hW
  generalize w.heap.size = gb at *
  clear p0 p1 p2
  go_loopw [2] (fun iv wr => ∃ (k : Nat) (us : List Nat), k ≤ n ∧ iv = .int .i64 (k : Int) ∧ Hid (us.length = n) ∧ Row .u64 124 wr g 0 C us ∧ Fx wr gb s (some ⟨g, 0, none⟩) n c none 0 d ∧ w.grownBy wr (some g)) (fun iv _ => n - (intOf iv).toNat)
  case atStart => exact ⟨0, zs, Nat.zero_le _, rfl, Hz, hr1, y0, hg1⟩
  case round =>
    obtain ⟨k, us, hk, rfl, hu, hrow, hX0, hg⟩ := hrel
    obtain ⟨x0, x1, x2⟩ := id hX0
    by_cases hlt : k < n
    · have hkl : k < us.length := by rw [hu.out]; exact hlt
      obtain ⟨v0, hc⟩ : ∃ v0 : Int, wr.cell? ⟨g, 0 + k, none⟩ = some (.int .u64 v0) := ⟨_, hrow.cell hkl⟩
      have hf := hrow.frozen (0 + k)
      have hs := hrow.set_ hkl 238
      rw [Nat.zero_add] at hc hf hs
      have hg2 := only_set (p := ⟨g, k, none⟩) hg rfl (.int .u64 238)
      have hu2 : Hid ((us.set k 238).length = n) := hide (by rw [List.length_set]; exact hu.out)
      have hx := hide (fx_put hX0 hng k (.int .u64 238))
      clear hkl hrow hg hu hX0
      go_wp2_with fail
      go_roundw
      case rel => exact ⟨k + 1, _, by omega, by go_num, hu2, hs, hx.out, hg2⟩
      case measure => simp [intOf]; omega
    · obtain rfl : n = k := by omega
      have hX := hide hX0
      have HG := hide hg
      clear hr1 hrow hg hX0
      go_wp2_with fail
      clear x0 x1 x2
      go_loop [3] (fun iv => iv = .int .i64 0) (fun _ => 0)
      case atStart => rfl
      case round =>
        subst hrel
        obtain ⟨p0, p1, p2⟩ := hX.out
        go_wp2_with fail
        go_end0
        exact ⟨rfl, _, HG.out, only_refl _ _⟩

set_option maxHeartbeats 2000000 in
theorem rspoil_row_row (s : Bool) (c d : Nat) (w : World) (n : Nat) (g : Nat) (C : Array Value) (zs : List Nat) (hr : Row .u64 124 w g 0 C zs) (hzn : zs.length = n) (hn : n ≤ maxLen) (m : Nat) (h : Nat) (E : Array Value) (ys : List Nat) (hy : Row .u64 124 w h 0 E ys) (hym : ys.length = m) (hm : m ≤ maxLen) (hgh : g ≠ h) :
    Calls Tryz.prog 36 #[rv s (.slice (some ⟨g, 0, none⟩) n c) (.slice (some ⟨h, 0, none⟩) m d)] w fun e w' => e = .returned (.tuple #[]) ∧ ∃ w1, w.grownBy w1 (some g) ∧ w1.grownBy w' (some h) := by
  unfold maxLen at hn
  have Hz := hide hzn
  have hng : g ≠ w.heap.size := by have := hr.lt; omega
  unfold maxLen at hm
  have Hy := hide hym
  have hnh : h ≠ w.heap.size := by have := hy.lt; omega
  obtain ⟨b1, y0⟩ := fbox1 w s (some ⟨g, 0, none⟩) n c (some ⟨h, 0, none⟩) m d
  have hr1 := hr.alloc (rbox s (.slice (some ⟨g, 0, none⟩) n c) (.slice (some ⟨h, 0, none⟩) m d))
  have hy1 := hy.alloc (rbox s (.slice (some ⟨g, 0, none⟩) n c) (.slice (some ⟨h, 0, none⟩) m d))
  have hg1 : w.grownBy (w.alloc (rbox s (.slice (some ⟨g, 0, none⟩) n c) (.slice (some ⟨h, 0, none⟩) m d))) (some g) := only_below (only_refl w _) b1 (Nat.le_refl _)
  clear b1 hr hzn hy hym
  go_enter Tryz.func36, Tryz.ntmps36
  obtain ⟨p0, p1, p2⟩ := id y0
  go_wp2_with fail
  generalize hW : (w.alloc (rbox s (.slice (some ⟨g, 0, none⟩) n c) (.slice (some ⟨h, 0, none⟩) m d))) = w1 at *
  clear hW
  generalize w.heap.size = gb at *
  clear p0 p1 p2
  go_loopw [2] (fun iv wr => ∃ (k : Nat) (us : List Nat), k ≤ n ∧ iv = .int .i64 (k : Int) ∧ Hid (us.length = n) ∧ Row .u64 124 wr g 0 C us ∧ Fx wr gb s (some ⟨g, 0, none⟩) n c (some ⟨h, 0, none⟩) m d ∧ w.grownBy wr (some g) ∧ Row .u64 124 wr h 0 E ys) (fun iv _ => n - (intOf iv).toNat)
  case atStart => exact ⟨0, zs, Nat.zero_le _, rfl, Hz, hr1, y0, hg1, hy1⟩
  case round =>
    obtain ⟨k, us, hk, rfl, hu, hrow, hX0, hg, hoth⟩ := hrel
    obtain ⟨x0, x1, x2⟩ := id hX0
    by_cases hlt : k < n
    · have hkl : k < us.length := by rw [hu.out]; exact hlt
      obtain ⟨v0, hc⟩ : ∃ v0 : Int, wr.cell? ⟨g, 0 + k, none⟩ = some (.int .u64 v0) := ⟨_, hrow.cell hkl⟩
      have hf := hrow.frozen (0 + k)
      have hs := hrow.set_ hkl 238
      rw [Nat.zero_add] at hc hf hs
      have hg2 := only_set (p := ⟨g, k, none⟩) hg rfl (.int .u64 238)
      have hu2 : Hid ((us.set k 238).length = n) := hide (by rw [List.length_set]; exact hu.out)
      have hx := hide (fx_put hX0 hng k (.int .u64 238))
      have ho2 := hide (hoth.far (p := ⟨g, k, none⟩) (by exact (Ne.symm hgh)) (.int .u64 238))
      clear hkl hrow hg hu hX0 hoth
      go_wp2_with fail
      go_roundw
      case rel => exact ⟨k + 1, _, by omega, by go_num, hu2, hs, hx.out, hg2, ho2.out⟩
      case measure => simp [intOf]; omega
    · obtain rfl : n = k := by omega
      have hX := hide hX0
      have hy2 := hide hoth
      have HG := hide hg
      clear hr1 hrow hg hX0 hoth
      go_wp2_with fail
      clear x0 x1 x2
      obtain ⟨wo, hwo⟩ : ∃ wo, wo = wr := ⟨_, rfl⟩
      subst hwo
      go_loopw [3] (fun iv wr => ∃ (k : Nat) (us : List Nat), k ≤ m ∧ iv = .int .i64 (k : Int) ∧ Hid (us.length = m) ∧ Row .u64 124 wr h 0 E us ∧ Fx wr gb s (some ⟨g, 0, none⟩) n c (some ⟨h, 0, none⟩) m d ∧ wo.grownBy wr (some h)) (fun iv _ => m - (intOf iv).toNat)
      case atStart => exact ⟨0, ys, Nat.zero_le _, rfl, Hy, hy2.out, hX.out, only_refl _ _⟩
      case round =>
        obtain ⟨k, us, hk, rfl, hu, hrow, hX0, hg⟩ := hrel
        obtain ⟨x0, x1, x2⟩ := id hX0
        by_cases hlt : k < m
        · have hkl : k < us.length := by rw [hu.out]; exact hlt
          obtain ⟨v0, hc⟩ : ∃ v0 : Int, wr.cell? ⟨h, 0 + k, none⟩ = some (.int .u64 v0) := ⟨_, hrow.cell hkl⟩
          have hf := hrow.frozen (0 + k)
          have hs := hrow.set_ hkl 238
          rw [Nat.zero_add] at hc hf hs
          have hg2 := only_set (p := ⟨h, k, none⟩) hg rfl (.int .u64 238)
          have hu2 : Hid ((us.set k 238).length = m) := hide (by rw [List.length_set]; exact hu.out)
          have hx := hide (fx_put hX0 hnh k (.int .u64 238))
          clear hkl hrow hg hu hX0
          go_wp2_with fail
          go_roundw
          case rel => exact ⟨k + 1, _, by omega, by go_num, hu2, hs, hx.out, hg2⟩
          case measure => simp [intOf]; omega
        · obtain rfl : m = k := by omega
          go_wp2_with fail
          go_end0
          exact ⟨rfl, _, HG.out, hg⟩

theorem rspoil_own {w : World} {B : Nat} {s : Bool} {u t : Value} {zs ys : List Nat} (hu : Own .u64 124 w B u zs) (ht : Own .u64 124 w B t ys) (dj : ∀ g, u.ownBlock = some g → t.ownBlock ≠ some g) :
    Calls Tryz.prog 36 #[rv s u t] w fun e w' => e = .returned (.tuple #[]) ∧ ∃ w1, w.grownBy w1 u.ownBlock ∧ w1.grownBy w' t.ownBlock := by
  rcases hu with ⟨rfl, rfl⟩ | ⟨g, cap, C, rfl, hB, hr, hC, hm⟩
  · rcases ht with ⟨rfl, rfl⟩ | ⟨h, cap', E, rfl, hB', hy, hE, hm'⟩
    · exact rspoil_nil_nil s 0 0 w
    · obtain ⟨cs, _, _, hl, _⟩ := id hy
      exact rspoil_nil_row s 0 cap' w ys.length h E ys hy rfl (by omega)
  · obtain ⟨cs, _, _, hl, _⟩ := id hr
    rcases ht with ⟨rfl, rfl⟩ | ⟨h, cap', E, rfl, hB', hy, hE, hm'⟩
    · exact rspoil_row_nil s cap 0 w zs.length g C zs hr rfl (by omega)
    · obtain ⟨cs', _, _, hl', _⟩ := id hy
      exact rspoil_row_row s cap cap' w zs.length g C zs hr rfl (by omega) ys.length h E ys hy rfl (by omega) (by
        rintro rfl
        exact dj g (by simp [Value.ownBlock]) (by simp [Value.ownBlock]))
end Go.Proofs.YtajjpepjbflojaaGreat
