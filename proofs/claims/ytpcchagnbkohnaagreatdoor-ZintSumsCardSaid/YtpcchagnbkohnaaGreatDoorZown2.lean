/-
  Whole numbers: Make, Neg, Add, Sub, Mul: the result is a list of the call's own.
-/
import Derived.Test.YtpcchagnbkohnaaGreatDoorZown
import Derived.Test.YtpcchagnbkohnaaGreatDoorBundleE


namespace Go.Proofs.YtpcchagnbkohnaaGreatDoor
open Go.RowKit Go.Proofs.YtpcchagnbkohnaaGreatDoor.Num
set_option linter.unusedVariables false
set_option linter.unusedSimpArgs false
set_option maxRecDepth 100000

/-- What a call leaves that answers a whole number: a list of its own. -/
def ZoRet (w : World) (z : Int) (L : Nat) (e : Ending) (w' : World) : Prop := ∃ sg A n c, e = .returned (zv sg (.slice A n c)) ∧ Zi w' (zv sg (.slice A n c)) z L ∧ Own .u64 77 w' w.heap.size (.slice A n c) (cn Q z.natAbs) ∧ Below w.heap.size w w'
theorem signed_fit_o {w0 w : World} {s : Bool} {u : Value} {x L g : Nat} (o : Own .u64 77 w w0.heap.size u (cn Q x)) (h : Cw w u x L) (hz : Zb w g) (hg0 : w0.heap.size ≤ g) (hb : Below w0.heap.size w0 w) :
    ∃ sg A n c, u = .slice A n c ∧ (s && decide (x ≠ 0)) = sg ∧ Calls Tryz.prog 44 #[.bool s, .slice A n c] w fun e w' => e = .returned (zv sg (.slice A n c)) ∧ Below w.heap.size w w' ∧
      w'.cell? ⟨g, 0, none⟩ = some (.bool false) ∧ w'.cell? ⟨g, 1, none⟩ = some (.slice none 0 0) ∧ w'.frozen? ⟨g, 0, none⟩ = false ∧ w'.frozen? ⟨g, 1, none⟩ = false ∧
      (((w'.setCell ⟨g, 0, none⟩ (.bool sg)).setCell ⟨g, 1, none⟩ (.slice A n c)).heap[g]? = some (.cells #[.bool sg, .slice A n c] 24 (0, 0)) ∧
        ZoRet w0 (zi s x) L (.returned (zv sg (.slice A n c))) ((w'.setCell ⟨g, 0, none⟩ (.bool sg)).setCell ⟨g, 1, none⟩ (.slice A n c))) := by
  obtain ⟨sg, A, n, c, rfl, hsg, hc⟩ := signed_fit (w0 := w0) (s := s) h hz hg0 hb
  refine ⟨sg, A, n, c, rfl, hsg, hc.mono fun e w' ⟨he, hb2, k0, k1, f0, f1, hh, fin⟩ => ⟨he, hb2, k0, k1, f0, f1, hh, ?_⟩⟩
  obtain ⟨v, e, hz', hb'⟩ := fin.zret rfl
  injection e with e
  subst e
  exact ⟨sg, A, n, c, rfl, hz', by rw [zi_abs]; exact (o.step hb2).zset (hz.step (Zb.lt hz) hb2) _ _, hb'⟩
theorem ret_fit_o {w0 w : World} {sg : Bool} {A : Option Addr} {n c : Nat} {z : Int} {L g : Nat} (o : Own .u64 77 w w0.heap.size (.slice A n c) (cn Q z.natAbs)) (h : Zi w (zv sg (.slice A n c)) z L) (hz : Zb w g) (hg0 : w0.heap.size ≤ g) (hb : Below w0.heap.size w0 w) :
    w.cell? ⟨g, 0, none⟩ = some (.bool false) ∧ w.cell? ⟨g, 1, none⟩ = some (.slice none 0 0) ∧ w.frozen? ⟨g, 0, none⟩ = false ∧ w.frozen? ⟨g, 1, none⟩ = false ∧
      (((w.setCell ⟨g, 0, none⟩ (.bool sg)).setCell ⟨g, 1, none⟩ (.slice A n c)).heap[g]? = some (.cells #[.bool sg, .slice A n c] 24 (0, 0)) ∧
        ZoRet w0 z L (.returned (zv sg (.slice A n c))) ((w.setCell ⟨g, 0, none⟩ (.bool sg)).setCell ⟨g, 1, none⟩ (.slice A n c))) := by
  obtain ⟨u, e, hc⟩ := h
  exact ⟨hz.c0, hz.c1, hz.fz 0, hz.fz 1, hz.set _ _, sg, A, n, c, rfl, ⟨u, e, hc.zset hz _ _⟩, o.zset hz _ _, (hb.setCell hg0 _).setCell hg0 _⟩

set_option maxHeartbeats 1000000 in
theorem zmake_o {w : World} {s : Bool} {u : Value} {x L : Nat} (h : Nw w u x L) (hL : L ≤ 17592186044000) :
    Calls Tryz.prog 12 #[.bool s, u] w (ZoRet w (zi s x) L) := by
  have a0 : Below w.heap.size w (w.alloc zblk) := (Below.refl _ _).alloc (Nat.le_refl _) _
  have H := hide (h.step a0)
  have HA := hide a0
  clear h a0
  go_enter Tryz.func12, Tryz.ntmps12
  go_wp2_with fail
  refine (ntrim_n H.out (by omega)).mono ?_
  rintro e w1 ⟨r, rfl, o1, c1, b1⟩
  obtain ⟨sg, A, n, c, rfl, hsg, hcall⟩ := signed_fit_o (w0 := w) (s := s) (o1.mono HA.out.size) c1 ((Zb.new w).step (by simp) b1) (Nat.le_refl _) (HA.out.trans (b1.mono HA.out.size))
  have HC := hide hcall
  clear o1 c1 b1 H HA hcall hsg
  go_wp2_with fail
  refine HC.out.mono ?_
  rintro e w2 ⟨rfl, -, k0, k1, f0, f1, fin⟩
  have F := hide fin
  clear fin HC
  go_wp2_with fail
  exact bodyPost_ret (zret rfl _ _ w.heap.size #[.bool sg, .slice A n c] rfl rfl F.out.1) rfl F.out.2
set_option maxHeartbeats 1000000 in
theorem zneg_o {w : World} {s : Bool} {u : Value} {x L : Nat} (h : Nw w u x L) (hL : L ≤ 17592186044000) :
    Calls Tryz.prog 14 #[zv s u] w (ZoRet w (zi (!s) x) L) := by
  obtain ⟨A, n, c, rfl⟩ := h.slice
  have a1 : Below w.heap.size w (w.alloc (zbox s (.slice A n c))) := (Below.refl _ _).alloc (Nat.le_refl _) _
  have a2 : Below w.heap.size w ((w.alloc (zbox s (.slice A n c))).alloc zblk) := a1.alloc (by simp) _
  have hz : Zb ((w.alloc (zbox s (.slice A n c))).alloc zblk) (w.heap.size + 1) := by have h := Zb.new (w.alloc (zbox s (.slice A n c))); simpa using h
  have H := hide (h.step a2)
  have HA := hide a2
  have HZ := hide hz
  clear h a1 a2 hz
  go_enter Tryz.func14, Tryz.ntmps14
  go_wp2_with fail
  refine (zmake_o (s := !s) H.out (by omega)).mono ?_
  rintro e w1 ⟨sg, A, n, c, rfl, hc, o1, b1⟩
  obtain ⟨k0, k1, f0, f1, fin⟩ := ret_fit_o (w0 := w) (o1.mono HA.out.size) hc (HZ.out.step (by simp) b1) (by simp) (HA.out.trans (b1.mono HA.out.size))
  have F := hide fin
  clear o1 hc b1 H HA HZ fin
  go_wp2_with fail
  exact bodyPost_ret (zret rfl _ _ _ #[.bool sg, .slice A n c] rfl rfl F.out.1) rfl F.out.2
set_option maxHeartbeats 4000000 in
theorem addSigned_o {w : World} {s t : Bool} {u v : Value} {x y L M K : Nat} (hu : Nw w u x L) (hv : Nw w v y M) (hL : L ≤ K) (hM : M ≤ K) (hK : K ≤ 17592186044000) :
    Calls Tryz.prog 49 #[zv s u, .bool t, v] w (ZoRet w (zi s x + zi t y) (K + 1)) := by
  obtain ⟨A, n, c, rfl⟩ := hu.slice
  obtain ⟨D, m, d, rfl⟩ := hv.slice
  have a1 : Below w.heap.size w (w.alloc (zbox s (.slice A n c))) := (Below.refl _ _).alloc (Nat.le_refl _) _
  have a2 : Below w.heap.size w ((w.alloc (zbox s (.slice A n c))).alloc zblk) := a1.alloc (by simp) _
  have hz : Zb ((w.alloc (zbox s (.slice A n c))).alloc zblk) (w.heap.size + 1) := by have h := Zb.new (w.alloc (zbox s (.slice A n c))); simpa using h
  have HS := hide (show w.heap.size + 1 < ((w.alloc (zbox s (.slice A n c))).alloc zblk).heap.size by simp)
  have p0 : ((w.alloc (zbox s (.slice A n c))).alloc zblk).cell? ⟨w.heap.size, 0, none⟩ = some (.bool s) := by go_simp
  have p1 : ((w.alloc (zbox s (.slice A n c))).alloc zblk).cell? ⟨w.heap.size, 1, none⟩ = some (.slice A n c) := by go_simp
  have HU := hide (hu.step a2)
  have HV := hide (hv.step a2)
  have HA := hide a2
  have HZ := hide hz
  clear hu hv a1 a2 hz
  by_cases hst : s = t
  · subst hst
    have tb : (s == s) = true := by simp
    have hzz : Hid (zi s (x + y) = zi s x + zi s y) := hide (by unfold zi; cases s <;> simp <;> omega)
    go_enter Tryz.func49, Tryz.ntmps49
    go_wp2_with fail
    generalize hW0 : (w.alloc (zbox s (.slice A n c))).alloc zblk = W0 at *
    refine (add_n (K := K) HU.out HV.out (by omega) (by omega) hL hM).mono ?_
    rintro e w1 ⟨r, rfl, o1, c1, b1⟩
    obtain ⟨sg, A1, n1, c1', rfl, hsg, hcall⟩ := signed_fit_o (w0 := w) (s := s) (o1.mono HA.out.size) c1 (HZ.out.step HS.out b1) (by omega) (HA.out.trans (b1.mono HA.out.size))
    have HC := hide hcall
    clear o1 hcall hsg b1 c1 HU HV HA HZ p0 p1 hW0
    go_wp2_with fail
    refine HC.out.mono ?_
    rintro e w2 ⟨rfl, b2, k0, k1, f0, f1, fin⟩
    have F := hide fin
    clear fin HC b2
    go_wp2_with fail
    exact bodyPost_ret (zret rfl _ _ _ #[.bool sg, .slice A1 n1 c1'] rfl rfl F.out.1) rfl (by rw [← hzz.out]; exact F.out.2)
  · have tb : (s == t) = false := by simpa using hst
    by_cases hle : y ≤ x
    · have hzz : Hid (zi s (x - y) = zi s x + zi t y) := hide (by unfold zi; cases s <;> cases t <;> simp at hst ⊢ <;> omega)
      have HLE := hide hle
      clear hst hle
      go_enter Tryz.func49, Tryz.ntmps49
      go_wp2_with fail
      generalize hW0 : (w.alloc (zbox s (.slice A n c))).alloc zblk = W0 at *
      refine (sub_n HU.out HV.out (by omega) (by omega) HLE.out).mono ?_
      rintro e w1 ⟨r, rfl, o1, c1, b1⟩
      have c1 : Cw w1 r (x - y) (K + 1) := by
        obtain ⟨A', c', e, h1, h2, h3, h4⟩ := c1
        exact ⟨A', c', e, h1, h2, h3, by omega⟩
      obtain ⟨sg, A1, n1, c1', rfl, hsg, hcall⟩ := signed_fit_o (w0 := w) (s := s) (o1.mono HA.out.size) c1 (HZ.out.step HS.out b1) (by omega) (HA.out.trans (b1.mono HA.out.size))
      have q0 := cell_keep p0 b1
      have HC := hide hcall
      clear o1 hcall hsg b1 c1 HU HV HA HZ p0 p1 hW0
      go_wp2_with fail
      refine HC.out.mono ?_
      rintro e w2 ⟨rfl, b2, k0, k1, f0, f1, fin⟩
      have F := hide fin
      clear fin HC b2
      go_wp2_with fail
      exact bodyPost_ret (zret rfl _ _ _ #[.bool sg, .slice A1 n1 c1'] rfl rfl F.out.1) rfl (by rw [← hzz.out]; exact F.out.2)
    · have hzz : Hid (zi t (y - x) = zi s x + zi t y) := hide (by unfold zi; cases s <;> cases t <;> simp at hst ⊢ <;> omega)
      have HLT := hide (Nat.lt_of_not_le hle)
      clear hst hle
      go_enter Tryz.func49, Tryz.ntmps49
      go_wp2_with fail
      generalize hW0 : (w.alloc (zbox s (.slice A n c))).alloc zblk = W0 at *
      refine (sub_less HU.out HV.out (by omega) (by omega) HLT.out).mono ?_
      rintro e w1 ⟨rfl, b1⟩
      have q1 := cell_keep p1 b1
      have HU1 := hide (HU.out.step b1)
      have HV1 := hide (HV.out.step b1)
      have HZ1 := hide (HZ.out.step HS.out b1)
      have HA1 := hide (HA.out.trans (b1.mono HA.out.size))
      have HS1 := hide (Nat.lt_of_lt_of_le HS.out b1.size)
      clear b1 HU HV HA HZ p0 p1 hW0 HS
      go_wp2_with fail
      refine (sub_n HV1.out HU1.out (by omega) (by omega) (Nat.le_of_lt HLT.out)).mono ?_
      rintro e w3 ⟨r, rfl, o1, c1, b1⟩
      have c1 : Cw w3 r (y - x) (K + 1) := by
        obtain ⟨A', c', e, h1, h2, h3, h4⟩ := c1
        exact ⟨A', c', e, h1, h2, h3, by omega⟩
      obtain ⟨sg, A1, n1, c1', rfl, hsg, hcall⟩ := signed_fit_o (w0 := w) (s := t) (o1.mono HA1.out.size) c1 (HZ1.out.step HS1.out b1) (by omega) (HA1.out.trans (b1.mono HA1.out.size))
      have HC := hide hcall
      clear o1 hcall hsg b1 c1 HU1 HV1 HA1 HZ1 q1
      go_wp2_with fail
      refine HC.out.mono ?_
      rintro e w2 ⟨rfl, b2, k0, k1, f0, f1, fin⟩
      have F := hide fin
      clear fin HC b2
      go_wp2_with fail
      exact bodyPost_ret (zret rfl _ _ _ #[.bool sg, .slice A1 n1 c1'] rfl rfl F.out.1) rfl (by rw [← hzz.out]; exact F.out.2)
set_option maxHeartbeats 2000000 in
theorem zadd_o {w : World} {u v : Value} {a b : Int} {L M K : Nat} (hu : Za w u a L) (hv : Za w v b M) (hL : L ≤ K) (hM : M ≤ K) (hK : K ≤ 17592186044000) :
    Calls Tryz.prog 20 #[u, v] w (ZoRet w (a + b) (K + 1)) := by
  obtain ⟨s, u, x, rfl, hu, hx⟩ := hu
  obtain ⟨t, v, y, rfl, hv, hy⟩ := hv
  obtain ⟨A, n, c, rfl⟩ := hu.slice
  obtain ⟨D, m, d, rfl⟩ := hv.slice
  have a1 : Below w.heap.size w (w.alloc (zbox s (.slice A n c))) := (Below.refl _ _).alloc (Nat.le_refl _) _
  have a2 : Below w.heap.size w ((w.alloc (zbox s (.slice A n c))).alloc (zbox t (.slice D m d))) := a1.alloc (by simp) _
  have a3 : Below w.heap.size w (((w.alloc (zbox s (.slice A n c))).alloc (zbox t (.slice D m d))).alloc zblk) := a2.alloc (by simp; omega) _
  have hz : Zb (((w.alloc (zbox s (.slice A n c))).alloc (zbox t (.slice D m d))).alloc zblk) (w.heap.size + 1 + 1) := by have h := Zb.new ((w.alloc (zbox s (.slice A n c))).alloc (zbox t (.slice D m d))); simpa using h
  have HS := hide (show w.heap.size + 1 + 1 < (((w.alloc (zbox s (.slice A n c))).alloc (zbox t (.slice D m d))).alloc zblk).heap.size by simp)
  have hcall := addSigned_o (s := s) (t := t) (K := K) (hu.step a3) (hv.step a3) hL hM hK
  have hzz : zi s x + zi t y = a + b := by first | (rw [hx, hy]; done) | (rw [← hx, ← hy]; unfold zi; cases t <;> first | (simp; done) | (simp; omega))
  rw [hzz] at hcall
  have HC := hide hcall
  have HA := hide a3
  have HZ := hide hz
  clear hu hv a1 a2 a3 hz hcall hx hy hzz
  go_enter Tryz.func20, Tryz.ntmps20
  go_wp2_with fail
  refine HC.out.mono ?_
  rintro e w1 ⟨sg, A1, n1, c1', rfl, c1, o1, b1⟩
  obtain ⟨k0, k1, f0, f1, fin⟩ := ret_fit_o (w0 := w) (o1.mono HA.out.size) c1 (HZ.out.step HS.out b1) (by omega) (HA.out.trans (b1.mono HA.out.size))
  have F := hide fin
  clear o1 fin HC b1 c1 HZ HA HS
  go_wp2_with fail
  exact bodyPost_ret (zret rfl _ _ _ #[.bool sg, .slice A1 n1 c1'] rfl rfl F.out.1) rfl F.out.2
set_option maxHeartbeats 2000000 in
theorem zsub_o {w : World} {u v : Value} {a b : Int} {L M K : Nat} (hu : Za w u a L) (hv : Za w v b M) (hL : L ≤ K) (hM : M ≤ K) (hK : K ≤ 17592186044000) :
    Calls Tryz.prog 21 #[u, v] w (ZoRet w (a - b) (K + 1)) := by
  obtain ⟨s, u, x, rfl, hu, hx⟩ := hu
  obtain ⟨t, v, y, rfl, hv, hy⟩ := hv
  obtain ⟨A, n, c, rfl⟩ := hu.slice
  obtain ⟨D, m, d, rfl⟩ := hv.slice
  have a1 : Below w.heap.size w (w.alloc (zbox s (.slice A n c))) := (Below.refl _ _).alloc (Nat.le_refl _) _
  have a2 : Below w.heap.size w ((w.alloc (zbox s (.slice A n c))).alloc (zbox t (.slice D m d))) := a1.alloc (by simp) _
  have a3 : Below w.heap.size w (((w.alloc (zbox s (.slice A n c))).alloc (zbox t (.slice D m d))).alloc zblk) := a2.alloc (by simp; omega) _
  have hz : Zb (((w.alloc (zbox s (.slice A n c))).alloc (zbox t (.slice D m d))).alloc zblk) (w.heap.size + 1 + 1) := by have h := Zb.new ((w.alloc (zbox s (.slice A n c))).alloc (zbox t (.slice D m d))); simpa using h
  have HS := hide (show w.heap.size + 1 + 1 < (((w.alloc (zbox s (.slice A n c))).alloc (zbox t (.slice D m d))).alloc zblk).heap.size by simp)
  have hcall := addSigned_o (s := s) (t := !t) (K := K) (hu.step a3) (hv.step a3) hL hM hK
  have hzz : zi s x + zi (!t) y = a - b := by first | (rw [hx, hy]; done) | (rw [← hx, ← hy]; unfold zi; cases t <;> first | (simp; done) | (simp; omega))
  rw [hzz] at hcall
  have HC := hide hcall
  have HA := hide a3
  have HZ := hide hz
  clear hu hv a1 a2 a3 hz hcall hx hy hzz
  go_enter Tryz.func21, Tryz.ntmps21
  go_wp2_with fail
  refine HC.out.mono ?_
  rintro e w1 ⟨sg, A1, n1, c1', rfl, c1, o1, b1⟩
  obtain ⟨k0, k1, f0, f1, fin⟩ := ret_fit_o (w0 := w) (o1.mono HA.out.size) c1 (HZ.out.step HS.out b1) (by omega) (HA.out.trans (b1.mono HA.out.size))
  have F := hide fin
  clear o1 fin HC b1 c1 HZ HA HS
  go_wp2_with fail
  exact bodyPost_ret (zret rfl _ _ _ #[.bool sg, .slice A1 n1 c1'] rfl rfl F.out.1) rfl F.out.2
set_option maxHeartbeats 4000000 in
theorem zmul_o {w : World} {s t : Bool} {u v : Value} {x y L M K : Nat} (hu : Nw w u x L) (hv : Nw w v y M) (hL : L ≤ 17592186044416) (hM : M ≤ 17592186044416) (hK : x * y < Q ^ K) :
    Calls Tryz.prog 22 #[zv s u, zv t v] w (ZoRet w (zi (s != t) (x * y)) K) := by
  obtain ⟨A, n, c, rfl⟩ := hu.slice
  obtain ⟨D, m, d, rfl⟩ := hv.slice
  have a1 : Below w.heap.size w (w.alloc (zbox s (.slice A n c))) := (Below.refl _ _).alloc (Nat.le_refl _) _
  have a2 : Below w.heap.size w ((w.alloc (zbox s (.slice A n c))).alloc (zbox t (.slice D m d))) := a1.alloc (by simp) _
  have a3 : Below w.heap.size w (((w.alloc (zbox s (.slice A n c))).alloc (zbox t (.slice D m d))).alloc zblk) := a2.alloc (by simp; omega) _
  have hz : Zb (((w.alloc (zbox s (.slice A n c))).alloc (zbox t (.slice D m d))).alloc zblk) (w.heap.size + 1 + 1) := by have h := Zb.new ((w.alloc (zbox s (.slice A n c))).alloc (zbox t (.slice D m d))); simpa using h
  have p0 : (((w.alloc (zbox s (.slice A n c))).alloc (zbox t (.slice D m d))).alloc zblk).drew.cell? ⟨w.heap.size, 0, none⟩ = some (.bool s) := by go_simp
  have p1 : (((w.alloc (zbox s (.slice A n c))).alloc (zbox t (.slice D m d))).alloc zblk).drew.cell? ⟨w.heap.size, 1, none⟩ = some (.slice A n c) := by go_simp
  have q0 : (((w.alloc (zbox s (.slice A n c))).alloc (zbox t (.slice D m d))).alloc zblk).drew.cell? ⟨w.heap.size + 1, 0, none⟩ = some (.bool t) := by go_simp
  have q1 : (((w.alloc (zbox s (.slice A n c))).alloc (zbox t (.slice D m d))).alloc zblk).drew.cell? ⟨w.heap.size + 1, 1, none⟩ = some (.slice D m d) := by go_simp
  have HU := hide (hu.step a3)
  have HV := hide (hv.step a3)
  have HA := hide a3
  have HZ := hide hz
  have HS := hide (show w.heap.size + 1 + 1 < (((w.alloc (zbox s (.slice A n c))).alloc (zbox t (.slice D m d))).alloc zblk).heap.size by simp)
  have HK := hide hK
  clear hu hv a1 a2 a3 hz hK
  go_enter Tryz.func22, Tryz.ntmps22
  go_wp2_with fail
  generalize hW0 : ((w.alloc (zbox s (.slice A n c))).alloc (zbox t (.slice D m d))).alloc zblk = W0 at *
  go_region_held3 (fun W => W.cell? ⟨w.heap.size, 0, none⟩ = some (.bool s) ∧ W.cell? ⟨w.heap.size, 1, none⟩ = some (.slice A n c) ∧ W.cell? ⟨w.heap.size + 1, 0, none⟩ = some (.bool t) ∧ W.cell? ⟨w.heap.size + 1, 1, none⟩ = some (.slice D m d))
    (first
      | exact ⟨p0, p1, q0, q1⟩
      | exact ⟨cell_keep p0 b1, cell_keep p1 b1, cell_keep q0 b1, cell_keep q1 b1⟩
      | exact ⟨cell_keep (cell_keep p0 b1) b2, cell_keep (cell_keep p1 b1) b2, cell_keep (cell_keep q0 b1) b2, cell_keep (cell_keep q1 b1) b2⟩
      | exact ⟨cell_zset (cell_keep (cell_keep p0 b1) b2) (by simp; omega) _ _, cell_zset (cell_keep (cell_keep p1 b1) b2) (by simp; omega) _ _, cell_zset (cell_keep (cell_keep q0 b1) b2) (by simp) _ _, cell_zset (cell_keep (cell_keep q1 b1) b2) (by simp) _ _⟩)
    (first
      | (go_at_call 50; refine (mul_b (w := W0.drew) (by exact HU.out) (by exact HV.out) hL hM HK.out).mono ?_; rintro e w1 ⟨r, rfl, o1, c1, b1⟩; have b1' := below_of_drew b1; obtain ⟨sg, A1, n1, c1', rfl, hsg, hcall⟩ := signed_fit_o (w0 := w) (s := s != t) (o1.mono HA.out.size) c1 (HZ.out.step HS.out b1') (by omega) (HA.out.trans (b1'.mono HA.out.size)))
      | (go_at_call 44; refine hcall.mono ?_; rintro e w2 ⟨rfl, b2, k0, k1, f0, f1, fin⟩))
  all_goals
    have F := hide fin
    clear fin
    go_wp2_with fail
    exact bodyPost_ret (zret rfl _ _ _ #[.bool sg, .slice A1 n1 c1'] rfl rfl F.out.1) rfl F.out.2
end Go.Proofs.YtpcchagnbkohnaaGreatDoor
