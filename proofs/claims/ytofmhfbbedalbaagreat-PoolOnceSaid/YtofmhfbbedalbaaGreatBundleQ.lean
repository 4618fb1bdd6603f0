/-
  Shared texts, one behind the other: Kref2, Kref4, Kref6, Kref7.
-/
import Derived.Test.YtofmhfbbedalbaaGreatBundleN
import Derived.Test.YtofmhfbbedalbaaGreatBundleH
import Derived.Test.YtofmhfbbedalbaaGreatKdrw
import Derived.Test.YtofmhfbbedalbaaGreatBundleM
import Derived.Test.YtofmhfbbedalbaaGreatBundleI

namespace Go.Proofs.YtofmhfbbedalbaaGreat
open Go.RowKit Go.Proofs.YtofmhfbbedalbaaGreat.Num
set_option linter.unusedVariables false
set_option linter.unusedSimpArgs false
set_option maxRecDepth 100000
theorem BRet.tr {P : Prop} {e : Ending} (h : BRet P e) (p : P) : e = .returned (.bool true) := by
 obtain ⟨b, rfl, hb⟩ := h
 rw [hb.2 p]
theorem BRet.fa {P : Prop} {e : Ending} (h : BRet P e) (p : ¬ P) : e = .returned (.bool false) := by
 obtain ⟨b, rfl, hb⟩ := h
 cases b
 ·rfl
 ·exact absurd (hb.1 rfl) p
theorem Tw.grownK {W W' : World} {B L g : Nat} {v : Value} {d : List Tx} {zs : List Zt} (h : Tw W B v d zs L) (hg : W.grownBy W' (some g)) (hk : Kb W g) : Tw W' B v d zs L :=
 ⟨h.1.kept hg (hk.ne h.1), h.2.1, fun i x z hx hz => ⟨(h.2.2 i x z hx hz).1, (h.2.2 i x z hx hz).2.grownT hg (fun g' e => by cases e; exact hk.ot)⟩⟩
theorem Zg.grownK {W W' : World} {B L g : Nat} {x : Rx} {z : Zt} (h : Zg W B x z L) (hg : W.grownBy W' (some g)) (hk : Kb W g) : Zg W' B x z L := h.grownT hg (fun g' e => by cases e; exact hk.ot)
def Kw (W : World) (k : Kx) (zs : List Zt) (z : Zt) (L : Nat) : Prop := Tl W (sv k.v) k.d zs L ∧ Zf W k.x z L
theorem Kw.kv {W : World} {k : Kx} {zs : List Zt} {z : Zt} {L : Nat} (h : Kw W k zs z L) : Kv W k L := ⟨h.1.tv, h.2.ra⟩
def Kwg (W : World) (B : Nat) (k : Kx) (zs : List Zt) (z : Zt) (L : Nat) : Prop := Tw W B (sv k.v) k.d zs L ∧ Zg W B k.x z L
theorem Kwg.kw {W : World} {B : Nat} {k : Kx} {zs : List Zt} {z : Zt} {L : Nat} (h : Kwg W B k zs z L) : Kw W k zs z L := ⟨h.1.tl, h.2.1⟩
theorem kw_of {W : World} {k : Kx} {L : Nat} (h : Kv W k L) : ∃ zs z, Kw W k zs z L := by
 obtain ⟨zs, hz⟩ := tl_of h.1
 obtain ⟨z, -, h1⟩ := zf_of h.2 0
 exact ⟨zs, z, hz, h1⟩
theorem kwg_put {w0 w : World} {k : Kx} {zs : List Zt} {z : Zt} {L g : Nat} (h : Kwg w w0.heap.size k zs z L) (hz : Kz w g) (hg0 : w0.heap.size ≤ g) (hb : Below w0.heap.size w0 w) :
  (w.cell? ⟨g, 0, none⟩ = some (.int .i64 0) ∧ w.cell? ⟨g, 1, none⟩ = some (.slice none 0 0) ∧ w.cell? ⟨g, 2, none⟩ = some (.bool false) ∧ w.cell? ⟨g, 3, none⟩ = some (.slice none 0 0) ∧ w.cell? ⟨g, 4, none⟩ = some (.slice none 0 0)) ∧
   (w.frozen? ⟨g, 0, none⟩ = false ∧ w.frozen? ⟨g, 1, none⟩ = false ∧ w.frozen? ⟨g, 2, none⟩ = false ∧ w.frozen? ⟨g, 3, none⟩ = false ∧ w.frozen? ⟨g, 4, none⟩ = false) ∧
   (((((w.setCell ⟨g, 0, none⟩ (.int .i64 k.s)).setCell ⟨g, 1, none⟩ (sv k.v)).setCell ⟨g, 2, none⟩ (.bool k.x.s)).setCell ⟨g, 3, none⟩ (sv k.x.u)).setCell ⟨g, 4, none⟩ (sv k.x.t)).heap[g]? = some (.cells #[.int .i64 k.s, sv k.v, .bool k.x.s, sv k.x.u, sv k.x.t] 29 (0, 0)) ∧
    Kwg (((((w.setCell ⟨g, 0, none⟩ (.int .i64 k.s)).setCell ⟨g, 1, none⟩ (sv k.v)).setCell ⟨g, 2, none⟩ (.bool k.x.s)).setCell ⟨g, 3, none⟩ (sv k.x.u)).setCell ⟨g, 4, none⟩ (sv k.x.t)) w0.heap.size k zs z L ∧
    Below w0.heap.size w0 (((((w.setCell ⟨g, 0, none⟩ (.int .i64 k.s)).setCell ⟨g, 1, none⟩ (sv k.v)).setCell ⟨g, 2, none⟩ (.bool k.x.s)).setCell ⟨g, 3, none⟩ (sv k.x.u)).setCell ⟨g, 4, none⟩ (sv k.x.t)) :=
 ⟨hz.all, ⟨hz.fz 0, hz.fz 1, hz.fz 2, hz.fz 3, hz.fz 4⟩, put5_heap hz rfl _ _ _ _ _, ⟨h.1.grownK (only_put5 w g _ _ _ _ _) hz.kb, h.2.grownK (only_put5 w g _ _ _ _ _) hz.kb⟩, below_put5 hb hg0 _ _ _ _ _⟩
set_option maxHeartbeats 4000000 in
theorem kcopy_w {w : World} {k : Kx} {zs : List Zt} {z : Zt} {L : Nat} (hk : Kw w k zs z L) (hn : k.d.length ≤ 1000000) (hL : L ≤ 17592186044000) :
  Calls Tryz.prog 9 #[kx k] w fun e w' => ∃ k' : Kx, e = .returned (kx k') ∧ k'.s = k.s ∧ Kwg w' w.heap.size k' zs z L ∧ Below w.heap.size w w' := by
 obtain ⟨hv, hr⟩ := hk
 have b2 : Below w.heap.size w ((w.alloc (kbox k)).alloc kblk).drew := (((Below.refl _ _).alloc (Nat.le_refl _) _).alloc (by simp) _).drew
 have Z := hide (show Kz ((w.alloc (kbox k)).alloc kblk).drew (w.heap.size + 1) by
  have h := Kz.new (w.alloc (kbox k))
  have h2 : Kz ((w.alloc (kbox k)).alloc kblk) (w.heap.size + 1) := by simpa using h
  exact h2)
 have P := hide (show Kq ((w.alloc (kbox k)).alloc kblk).drew w.heap.size k from
  ((Kq.new w k).step ((Below.refl _ _).alloc (Nat.le_refl _) kblk)).step (Below.refl _ _).drew)
 have HV := hide (hv.step b2)
 have HR := hide (hr.step b2)
 have B := hide b2
 have HN := hide hn
 have hg0 : w.heap.size ≠ w.heap.size + 1 := by omega
 clear hv hr b2 hn
 go_enter Tryz.func9, Tryz.ntmps9
 go_wp2_with fail
 generalize hW0 : ((w.alloc (kbox k)).alloc kblk) = W0 at *
 go_region_held3 (fun W => W.cell? ⟨w.heap.size, 0, none⟩ = some (.int .i64 k.s) ∧ W.cell? ⟨w.heap.size, 1, none⟩ = some (sv k.v) ∧ W.cell? ⟨w.heap.size, 2, none⟩ = some (.bool k.x.s) ∧ W.cell? ⟨w.heap.size, 3, none⟩ = some (sv k.x.u) ∧ W.cell? ⟨w.heap.size, 4, none⟩ = some (sv k.x.t))
  (first | with_reducible exact P.out.all | with_reducible exact (((((P.out.other hg0 _ _).other hg0 _ _).other hg0 _ _).other hg0 _ _).other hg0 _ _).all)
  (first
   | (go_at_call 35; refine Calls.mono (copy_v (L := L) HV.out hL HN.out) ?_; rintro e wx ⟨v1, d1, rfl, t1, bx⟩; obtain ⟨A5, n5, c5, rfl⟩ := rv_sl t1.tl.1; have T1 := hide t1; replace P := hide (P.out.step bx); replace HR := hide (HR.out.step bx); replace Z := hide (Z.out.step bx); have B1 := hide (show W0.drew.heap.size = W0.drew.heap.size from rfl); have T2 := hide (show Tw wx w.heap.size (.slice A5 n5 c5) d1 zs L from ⟨t1.1.mono B.out.size, t1.2.1, fun i x z hx hz => ⟨(t1.2.2 i x z hx hz).1, (t1.2.2 i x z hx hz).2.mono B.out.size⟩⟩); replace B := hide (Below.step B.out B.out.size bx); clear t1 bx T1 B1)
   | (go_at_call 36; refine Calls.mono (rcopy_w (L := L) HR.out hL) ?_; rintro e wx ⟨y, rfl, r3, bx⟩; replace P := hide (P.out.step bx); obtain ⟨⟨k0, k1, k2, k3, k4⟩, ⟨f0, f1, f2, f3, f4⟩, fin⟩ := kwg_put (w0 := w) (k := ⟨k.s, (A5, n5, c5), d1, y⟩) (L := L) ⟨T2.out.step bx, r3.mono (B' := w.heap.size) B.out.size⟩ (Z.out.step bx) (by omega) (Below.step B.out B.out.size bx); dsimp only at fin))
 all_goals
  have F9 := hide fin
  clear fin
  go_wp2_with fail
  exact bodyPost_ret (kret rfl _ _ _ #[.int .i64 k.s, .slice A5 n5 c5, .bool y.s, sv y.u, sv y.t] rfl rfl F9.out.1) rfl ⟨⟨k.s, (A5, n5, c5), d1, y⟩, rfl, rfl, F9.out.2.1, F9.out.2.2⟩
set_option maxHeartbeats 4000000 in
theorem rform_g {w : World} {k : Kx} {L : Nat} (hk : Kv w k L) (hn : k.d.length ≤ 1000) (h1 : 1 ≤ L) (hL : L ≤ 100000) :
  Calls Tryz.prog 38 #[kx k] w (KfRet w k (k.d.length * (5 * L + 1) + 6 + 5 * L)) := by
 obtain ⟨hv, hr⟩ := hk
 have b2 : Below w.heap.size w ((w.alloc (kbox k)).alloc kblk).drew := (((Below.refl _ _).alloc (Nat.le_refl _) _).alloc (by simp) _).drew
 have Z := hide (show Kz ((w.alloc (kbox k)).alloc kblk).drew (w.heap.size + 1) by
  have h := Kz.new (w.alloc (kbox k))
  have h2 : Kz ((w.alloc (kbox k)).alloc kblk) (w.heap.size + 1) := by simpa using h
  exact h2)
 have P := hide (show Kq ((w.alloc (kbox k)).alloc kblk).drew w.heap.size k from
  ((Kq.new w k).step ((Below.refl _ _).alloc (Nat.le_refl _) kblk)).step (Below.refl _ _).drew)
 have HV := hide (hv.step b2)
 have HR := hide (hr.step b2)
 have B := hide b2
 have HN := hide hn
 have hg0 : w.heap.size ≠ w.heap.size + 1 := by omega
 clear hv hr b2 hn
 go_enter Tryz.func38, Tryz.ntmps38
 go_wp2_with fail
 generalize hW0 : ((w.alloc (kbox k)).alloc kblk) = W0 at *
 go_region_held3 (fun W => W.cell? ⟨w.heap.size, 0, none⟩ = some (.int .i64 k.s) ∧ W.cell? ⟨w.heap.size, 1, none⟩ = some (sv k.v) ∧ W.cell? ⟨w.heap.size, 2, none⟩ = some (.bool k.x.s) ∧ W.cell? ⟨w.heap.size, 3, none⟩ = some (sv k.x.u) ∧ W.cell? ⟨w.heap.size, 4, none⟩ = some (sv k.x.t))
  (first | with_reducible exact P.out.all | with_reducible exact (((((P.out.other hg0 _ _).other hg0 _ _).other hg0 _ _).other hg0 _ _).other hg0 _ _).all)
  (first
   | (go_at_call 48; refine Calls.mono (vmake_fl (L := L) HV.out HN.out h1 hL) ?_; rintro e wx ⟨v1, d1, rfl, t1, f1, g1, l1, bx⟩; obtain ⟨A5, n5, c5, rfl⟩ := rv_sl t1.tv.1; have T1 := hide (t1.mono (B' := w.heap.size) B.out.size); have F1 := hide f1; have G1 := hide g1; have N1 := hide l1; replace P := hide (P.out.step bx); replace HR := hide (HR.out.step bx); replace Z := hide (Z.out.step bx); replace B := hide (Below.step B.out B.out.size bx); clear t1 f1 g1 l1 bx)
   | (go_at_call 39; refine Calls.mono (rof_f (L := L) HR.out h1 (by omega)) ?_; rintro e wx ⟨q, rfl, hq, rq, bx⟩; have HQ := hide hq; have RQ := hide rq; replace T1 := hide (T1.out.step bx); replace P := hide (P.out.step bx); replace Z := hide (Z.out.step bx); replace B := hide (Below.step B.out B.out.size bx); clear hq rq bx)
   | (go_at_call 42; refine Calls.mono (rfto_g RQ.out (by omega)) ?_; rintro e wx ⟨y, rfl, e3, r3, bx⟩; replace P := hide (P.out.step bx); obtain ⟨⟨k0, k1, k2, k3, k4⟩, ⟨f0, f1, f2, f3, f4⟩, fin⟩ := kg_put (w0 := w) (k := ⟨k.s, (A5, n5, c5), d1, y⟩) (L := k.d.length * (5 * L + 1) + 6 + 5 * L) ⟨(T1.out.step bx).more (by omega), (r3.mono (B' := w.heap.size) B.out.size).more (by omega), F1.out⟩ (Z.out.step bx) (by omega) (Below.step B.out B.out.size bx); dsimp only at fin; have E3 := hide (show y.r = k.x.r by rw [e3, HQ.out]); clear e3))
 all_goals
  have F9 := hide fin
  clear fin
  go_wp2_with fail
  exact bodyPost_ret (kret rfl _ _ _ #[.int .i64 k.s, .slice A5 n5 c5, .bool y.s, sv y.u, sv y.t] rfl rfl F9.out.1) rfl ⟨⟨k.s, (A5, n5, c5), d1, y⟩, rfl, F9.out.2.1, rfl, G1.out, E3.out, N1.out, F9.out.2.2⟩

end Go.Proofs.YtofmhfbbedalbaaGreat
