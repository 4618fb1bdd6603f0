/-
  Shared texts, one behind the other: Kref2, Kref4, Kref6, Kref7, Kjn, Krnd.
-/
import Derived.Test.YtfnngcaalpknlaaGreatBundleN
import Derived.Test.YtfnngcaalpknlaaGreatBundleH
import Derived.Test.YtfnngcaalpknlaaGreatKdrw
import Derived.Test.YtfnngcaalpknlaaGreatBundleM
import Derived.Test.YtfnngcaalpknlaaGreatBundleI
import Derived.Test.YtfnngcaalpknlaaGreatEl

namespace Go.Proofs.YtfnngcaalpknlaaGreat
open Go.RowKit Go.Proofs.YtfnngcaalpknlaaGreat.Num
set_option linter.unusedVariables false
set_option linter.unusedSimpArgs false
set_option maxRecDepth 100000
theorem BRet.tr {P : Prop} {e : Ending} (h : BRet P e) (p : P) : e = .returned (.bool true) := by
 obtain ⟨b, rfl, hb⟩ := h
 rw [hb.2 p]
theorem Tw.grownK {W W' : World} {B L g : Nat} {v : Value} {d : List Tx} {zs : List Zt} (h : Tw W B v d zs L) (hg : W.grownBy W' (some g)) (hk : Kb W g) : Tw W' B v d zs L :=
 ⟨h.1.kept hg (hk.ne h.1), h.2.1, fun i x z hx hz => ⟨(h.2.2 i x z hx hz).1, (h.2.2 i x z hx hz).2.grownT hg (fun g' e => by cases e; exact hk.ot)⟩⟩
theorem Zg.grownK {W W' : World} {B L g : Nat} {x : Rx} {z : Zt} (h : Zg W B x z L) (hg : W.grownBy W' (some g)) (hk : Kb W g) : Zg W' B x z L := h.grownT hg (fun g' e => by cases e; exact hk.ot)
def Kw (W : World) (k : Kx) (zs : List Zt) (z : Zt) (L : Nat) : Prop := Tl W (sv k.v) k.d zs L ∧ Zf W k.x z L
theorem Kw.step {W W' : World} {k : Kx} {zs : List Zt} {z : Zt} {L : Nat} (h : Kw W k zs z L) (hb : Below W.heap.size W W') : Kw W' k zs z L := ⟨h.1.step hb, h.2.step hb⟩
theorem Kw.kv {W : World} {k : Kx} {zs : List Zt} {z : Zt} {L : Nat} (h : Kw W k zs z L) : Kv W k L := ⟨h.1.tv, h.2.ra⟩
def Kwg (W : World) (B : Nat) (k : Kx) (zs : List Zt) (z : Zt) (L : Nat) : Prop := Tw W B (sv k.v) k.d zs L ∧ Zg W B k.x z L
theorem Kwg.kw {W : World} {B : Nat} {k : Kx} {zs : List Zt} {z : Zt} {L : Nat} (h : Kwg W B k zs z L) : Kw W k zs z L := ⟨h.1.tl, h.2.1⟩
theorem kw_of {W : World} {k : Kx} {L : Nat} (h : Kv W k L) : ∃ zs z, Kw W k zs z L := by
 obtain ⟨zs, hz⟩ := tl_of h.1
 obtain ⟨z, -, h1⟩ := zf_of h.2 0
 exact ⟨zs, z, hz, h1⟩
theorem kwg_put {w0 w : World} {k : Kx} {zs : List Zt} {z : Zt} {L g : Nat} (h : Kwg w w0.heap.size k zs z L) (hz : Kz w g) (hg0 : w0.heap.size ≤ g) (hb : Below w0.heap.size w0 w) :
  (w.cell? ⟨g, 0, none⟩ = some (.int .i64 0) ∧ w.cell? ⟨g, 1, none⟩ = some (.slice none 0 0) ∧ w.cell? ⟨g, 2, none⟩ = some (.bool false) ∧ w.cell? ⟨g, 3, none⟩ = some (.slice none 0 0) ∧ w.cell? ⟨g, 4, none⟩ = some (.slice none 0 0)) ∧
   (w.frozen? ⟨g, 0, none⟩ = false ∧ w.frozen? ⟨g, 1, none⟩ = false ∧ w.frozen? ⟨g, 2, none⟩ = false ∧ w.frozen? ⟨g, 3, none⟩ = false ∧ w.frozen? ⟨g, 4, none⟩ = false) ∧
   (((((w.setCell ⟨g, 0, none⟩ (.int .i64 k.s)).setCell ⟨g, 1, none⟩ (sv k.v)).setCell ⟨g, 2, none⟩ (.bool k.x.s)).setCell ⟨g, 3, none⟩ (sv k.x.u)).setCell ⟨g, 4, none⟩ (sv k.x.t)).heap[g]? = some (.cells #[.int .i64 k.s, sv k.v, .bool k.x.s, sv k.x.u, sv k.x.t] 54 (0, 0)) ∧
    Kwg (((((w.setCell ⟨g, 0, none⟩ (.int .i64 k.s)).setCell ⟨g, 1, none⟩ (sv k.v)).setCell ⟨g, 2, none⟩ (.bool k.x.s)).setCell ⟨g, 3, none⟩ (sv k.x.u)).setCell ⟨g, 4, none⟩ (sv k.x.t)) w0.heap.size k zs z L ∧
    Below w0.heap.size w0 (((((w.setCell ⟨g, 0, none⟩ (.int .i64 k.s)).setCell ⟨g, 1, none⟩ (sv k.v)).setCell ⟨g, 2, none⟩ (.bool k.x.s)).setCell ⟨g, 3, none⟩ (sv k.x.u)).setCell ⟨g, 4, none⟩ (sv k.x.t)) :=
 ⟨hz.all, ⟨hz.fz 0, hz.fz 1, hz.fz 2, hz.fz 3, hz.fz 4⟩, put5_heap hz rfl _ _ _ _ _, ⟨h.1.grownK (only_put5 w g _ _ _ _ _) hz.kb, h.2.grownK (only_put5 w g _ _ _ _ _) hz.kb⟩, below_put5 hb hg0 _ _ _ _ _⟩
set_option maxHeartbeats 4000000 in
theorem kcopy_w {w : World} {k : Kx} {zs : List Zt} {z : Zt} {L : Nat} (hk : Kw w k zs z L) (hn : k.d.length ≤ 1000000) (hL : L ≤ 17592186044000) :
  Calls Tryz.prog 33 #[kx k] w fun e w' => ∃ k' : Kx, e = .returned (kx k') ∧ k'.s = k.s ∧ Kwg w' w.heap.size k' zs z L ∧ Below w.heap.size w w' := by
 obtain ⟨hv, hr⟩ := hk
 have b2 : Below w.heap.size w ((w.alloc (kbox k)).alloc kblk).drew := (((Below.refl _ _).alloc (Nat.le_refl _) _).alloc (by simp) _).drew
 have Z := hide (show Kz ((w.alloc (kbox k)).alloc kblk).drew (w.heap.size + 1) by
  have h := Kz.new (w.alloc (kbox k))
  have h2 : Kz ((w.alloc (kbox k)).alloc kblk) (w.heap.size + 1) := by simpa using h
  exact h2)
 have P := hide (show Kq ((w.alloc (kbox k)).alloc kblk).drew w.heap.size k from
  ((Kq.new w k).step ((Below.refl _ _).alloc (Nat.le_refl _) kblk)).step (Below.refl _ _).drew)
 have HV := hide (hv.step b2)
 have HR := hide (hr.step b2)
 have B := hide b2
 have HN := hide hn
 have hg0 : w.heap.size ≠ w.heap.size + 1 := by omega
 clear hv hr b2 hn
 go_enter Tryz.func33, Tryz.ntmps33
 go_wp2_with fail
 generalize hW0 : ((w.alloc (kbox k)).alloc kblk) = W0 at *
 go_region_held3 (fun W => W.cell? ⟨w.heap.size, 0, none⟩ = some (.int .i64 k.s) ∧ W.cell? ⟨w.heap.size, 1, none⟩ = some (sv k.v) ∧ W.cell? ⟨w.heap.size, 2, none⟩ = some (.bool k.x.s) ∧ W.cell? ⟨w.heap.size, 3, none⟩ = some (sv k.x.u) ∧ W.cell? ⟨w.heap.size, 4, none⟩ = some (sv k.x.t))
  (first | with_reducible exact P.out.all | with_reducible exact (((((P.out.other hg0 _ _).other hg0 _ _).other hg0 _ _).other hg0 _ _).other hg0 _ _).all)
  (first
   | (go_at_call 84; refine Calls.mono (copy_v (L := L) HV.out hL HN.out) ?_; rintro e wx ⟨v1, d1, rfl, t1, bx⟩; obtain ⟨A5, n5, c5, rfl⟩ := rv_sl t1.tl.1; have T1 := hide t1; replace P := hide (P.out.step bx); replace HR := hide (HR.out.step bx); replace Z := hide (Z.out.step bx); have B1 := hide (show W0.drew.heap.size = W0.drew.heap.size from rfl); have T2 := hide (show Tw wx w.heap.size (.slice A5 n5 c5) d1 zs L from ⟨t1.1.mono B.out.size, t1.2.1, fun i x z hx hz => ⟨(t1.2.2 i x z hx hz).1, (t1.2.2 i x z hx hz).2.mono B.out.size⟩⟩); replace B := hide (Below.step B.out B.out.size bx); clear t1 bx T1 B1)
   | (go_at_call 71; refine Calls.mono (rcopy_w (L := L) HR.out hL) ?_; rintro e wx ⟨y, rfl, r3, bx⟩; replace P := hide (P.out.step bx); obtain ⟨⟨k0, k1, k2, k3, k4⟩, ⟨f0, f1, f2, f3, f4⟩, fin⟩ := kwg_put (w0 := w) (k := ⟨k.s, (A5, n5, c5), d1, y⟩) (L := L) ⟨T2.out.step bx, r3.mono (B' := w.heap.size) B.out.size⟩ (Z.out.step bx) (by omega) (Below.step B.out B.out.size bx); dsimp only at fin))
 all_goals
  have F9 := hide fin
  clear fin
  go_wp2_with fail
  exact bodyPost_ret (kret rfl _ _ _ #[.int .i64 k.s, .slice A5 n5 c5, .bool y.s, sv y.u, sv y.t] rfl rfl F9.out.1) rfl ⟨⟨k.s, (A5, n5, c5), d1, y⟩, rfl, rfl, F9.out.2.1, F9.out.2.2⟩
theorem samecons_w {w : World} {a b : Kx} {zs : List Zt} {z : Zt} {L M : Nat} (ha : Kw w a zs z L) (hb : Kw w b zs z M) (hs : a.s = b.s) :
  Calls Tryz.prog 29 #[kx a, kx b] w fun e w' => e = .returned (.bool true) ∧ Below w.heap.size w w' := by
 have b2 : Below w.heap.size w ((w.alloc (kbox a)).alloc (kbox b)) := ((Below.refl _ _).alloc (Nat.le_refl _) _).alloc (by simp) _
 have P := hide (show Kq ((w.alloc (kbox a)).alloc (kbox b)) w.heap.size a from (Kq.new w a).step ((Below.refl _ _).alloc (Nat.le_refl _) (kbox b)))
 have P2 := hide (show Kq ((w.alloc (kbox a)).alloc (kbox b)) (w.heap.size + 1) b by
  have h := Kq.new (w.alloc (kbox a)) b
  have h2 : Kq ((w.alloc (kbox a)).alloc (kbox b)) (w.heap.size + 1) b := by simpa using h
  exact h2)
 have HA := hide (ha.step b2)
 have HB := hide (hb.step b2)
 have B := hide b2
 clear ha hb b2
 obtain ⟨p0, p1, p2, p3, p4⟩ := P.out.all
 obtain ⟨q0, q1, q2, q3, q4⟩ := P2.out.all
 have t1 : (a.s == b.s) = true := beq_iff_eq.2 hs
 clear hs
 go_enter Tryz.func29, Tryz.ntmps29
 go_wp2_with fail
 refine (same_v HA.out.1 HB.out.1).mono ?_
 rintro e w1 ⟨rfl, bx⟩
 replace P := hide (P.out.step bx)
 replace P2 := hide (P2.out.step bx)
 replace HA := hide (HA.out.step bx)
 replace HB := hide (HB.out.step bx)
 replace B := hide (Below.step B.out B.out.size bx)
 clear bx p0 p1 p2 p3 p4 q0 q1 q2 q3 q4
 obtain ⟨p0, p1, p2, p3, p4⟩ := P.out.all
 obtain ⟨q0, q1, q2, q3, q4⟩ := P2.out.all
 go_wp2_with fail
 refine (rsame_l HA.out.2.rl HB.out.2.rl).mono ?_
 rintro e w1 ⟨rfl, bx⟩
 replace B := hide (Below.step B.out B.out.size bx)
 clear bx p0 p1 p2 p3 p4 q0 q1 q2 q3 q4
 go_wp2_with fail
 go_ret
 exact ⟨rfl, B.out⟩
set_option maxHeartbeats 8000000 in
theorem rfalse_f {w : World} {k : Kx} {L : Nat} (hk : Kv w k L) (hn : k.d.length ≤ 1000) (h1 : 1 ≤ L) (hL : L ≤ 100000) :
  Calls Tryz.prog 39 #[kx k] w fun e w' => BRet (Fls k.s (tms k.d) k.x.r) e ∧ Below w.heap.size w w' := by
 have b2 : Below w.heap.size w (w.alloc (kbox k)).drew := ((Below.refl _ _).alloc (Nat.le_refl _) _).drew
 have P := hide (show Kq (w.alloc (kbox k)).drew w.heap.size k from (Kq.new w k).step (Below.refl _ _).drew)
 have HK := hide (hk.step b2)
 have B := hide b2
 have HN := hide hn
 clear hk b2 hn
 go_enter Tryz.func39, Tryz.ntmps39
 go_wp2_with fail
 generalize hW0 : (w.alloc (kbox k)) = W0 at *
 refine wp_region_held_drew (S := fun W => W.cell? ⟨w.heap.size, 0, none⟩ = some (.int .i64 k.s) ∧ W.cell? ⟨w.heap.size, 1, none⟩ = some (sv k.v) ∧ W.cell? ⟨w.heap.size, 2, none⟩ = some (.bool k.x.s) ∧ W.cell? ⟨w.heap.size, 3, none⟩ = some (sv k.x.u) ∧ W.cell? ⟨w.heap.size, 4, none⟩ = some (sv k.x.t)) (by kernel_rfl) ?_ (fun hHeld => ?_)
 ·try dsimp only
  exact P.out.all
 refine tk 0 (v := ?_) hHeld ?_ ?_; rotate_left; (focus (intro w hSw; (try dsimp only at hSw); go_simp; (try with_reducible rfl)))
 try simp only [Act.put, s1, s2, s3, s4, s5, s6]
 refine tk 1 (v := ?_) hHeld ?_ ?_; rotate_left; (focus (intro w hSw; (try dsimp only at hSw); go_simp; (try with_reducible rfl)))
 try simp only [Act.put, s1, s2, s3, s4, s5, s6]
 refine r1 2 (fun K hK => ?_)
 go_simp
 go_at_call 46; refine Calls.mono (sense_c k.s _) ?_; rintro e wx ⟨⟨o, rfl, ho⟩, hw⟩; subst wx; have H1 := hide ho; clear ho
 try dsimp only
 refine hK.out _ _ ?_ (fun hHeld => ?_); (focus ((try dsimp only); exact P.out.all)); clear hK K
 try simp only [Act.put, s1, s2, s3, s4, s5, s6]
 cases o
 case false =>
  refine tk 3 (v := ?_) hHeld ?_ ?_; rotate_left; (focus (intro w hSw; (try dsimp only at hSw); go_simp; (try with_reducible rfl)))
  try simp only [Act.put, s1, s2, s3, s4, s5, s6]
  refine sh 4 hHeld ?_
  try simp only [Act.put, s1, s2, s3, s4, s5, s6]
  refine r1 5 (fun K hK => ?_)
  go_simp
  refine hK.out _ _ ?_ (fun hHeld => ?_); (focus ((try dsimp only); exact P.out.all)); clear hK K
  try simp only [Act.put, s1, s2, s3, s4, s5, s6]
  refine tk 6 (v := ?_) hHeld ?_ ?_; rotate_left; (focus (intro w hSw; (try dsimp only at hSw); go_simp; (try with_reducible rfl)))
  try simp only [Act.put, s1, s2, s3, s4, s5, s6]
  refine tk 7 (v := ?_) hHeld ?_ ?_; rotate_left; (focus (intro w hSw; (try dsimp only at hSw); go_simp; (try with_reducible rfl)))
  try simp only [Act.put, s1, s2, s3, s4, s5, s6]
  refine sh 8 hHeld ?_
  try simp only [Act.put, s1, s2, s3, s4, s5, s6]
  refine r1 9 (fun K hK => ?_)
  go_simp
  refine hK.out _ _ ?_ (fun hHeld => ?_); (focus ((try dsimp only); exact P.out.all)); clear hK K
  try simp only [Act.put, s1, s2, s3, s4, s5, s6]
  refine r1 10 (fun K hK => ?_)
  go_simp
  refine hK.out _ _ ?_ (fun hHeld => ?_); (focus ((try dsimp only); exact P.out.all)); clear hK K
  try simp only [Act.put, s1, s2, s3, s4, s5, s6]
  refine sh 11 hHeld ?_
  try simp only [Act.put, s1, s2, s3, s4, s5, s6]
  refine tk 12 (v := ?_) hHeld ?_ ?_; rotate_left; (focus (intro w hSw; (try dsimp only at hSw); go_simp; (try with_reducible rfl)))
  try simp only [Act.put, s1, s2, s3, s4, s5, s6]
  refine tk 13 (v := ?_) hHeld ?_ ?_; rotate_left; (focus (intro w hSw; (try dsimp only at hSw); go_simp; (try with_reducible rfl)))
  try simp only [Act.put, s1, s2, s3, s4, s5, s6]
  refine wpAnyH_done (by kernel_rfl) ?_ _
  go_wp2_with fail
  go_ret
  exact ⟨⟨false, rfl, by constructor <;> intro h; cases h; exact absurd (H1.out.2 h.1) (by simp)⟩, B.out⟩
 have E1 := hide (H1.out.1 (by simp))
 clear H1
 refine tk 3 (v := ?_) hHeld ?_ ?_; rotate_left; (focus (intro w hSw; (try dsimp only at hSw); go_simp; (try with_reducible rfl)))
 try simp only [Act.put, s1, s2, s3, s4, s5, s6]
 refine tk 4 (v := ?_) hHeld ?_ ?_; rotate_left; (focus (intro w hSw; (try dsimp only at hSw); go_simp; (try with_reducible rfl)))
 try simp only [Act.put, s1, s2, s3, s4, s5, s6]
 refine r1 5 (fun K hK => ?_)
 go_simp
 go_at_call 98; refine Calls.mono (bare_f (k := k) (L := L) HK.out HN.out h1 hL) ?_; rintro e wx ⟨⟨o, rfl, ho⟩, bx⟩; have H1 := hide ho; clear ho; replace P := hide (P.out.step bx); replace HK := hide (HK.out.step bx); replace B := hide (Below.step B.out B.out.size bx); clear bx
 try dsimp only
 refine hK.out _ _ ?_ (fun hHeld => ?_); (focus ((try dsimp only); exact P.out.all)); clear hK K
 try simp only [Act.put, s1, s2, s3, s4, s5, s6]
 cases o
 case false =>
  refine tk 6 (v := ?_) hHeld ?_ ?_; rotate_left; (focus (intro w hSw; (try dsimp only at hSw); go_simp; (try with_reducible rfl)))
  try simp only [Act.put, s1, s2, s3, s4, s5, s6]
  refine tk 7 (v := ?_) hHeld ?_ ?_; rotate_left; (focus (intro w hSw; (try dsimp only at hSw); go_simp; (try with_reducible rfl)))
  try simp only [Act.put, s1, s2, s3, s4, s5, s6]
  refine sh 8 hHeld ?_
  try simp only [Act.put, s1, s2, s3, s4, s5, s6]
  refine r1 9 (fun K hK => ?_)
  go_simp
  refine hK.out _ _ ?_ (fun hHeld => ?_); (focus ((try dsimp only); exact P.out.all)); clear hK K
  try simp only [Act.put, s1, s2, s3, s4, s5, s6]
  refine r1 10 (fun K hK => ?_)
  go_simp
  refine hK.out _ _ ?_ (fun hHeld => ?_); (focus ((try dsimp only); exact P.out.all)); clear hK K
  try simp only [Act.put, s1, s2, s3, s4, s5, s6]
  refine sh 11 hHeld ?_
  try simp only [Act.put, s1, s2, s3, s4, s5, s6]
  refine tk 12 (v := ?_) hHeld ?_ ?_; rotate_left; (focus (intro w hSw; (try dsimp only at hSw); go_simp; (try with_reducible rfl)))
  try simp only [Act.put, s1, s2, s3, s4, s5, s6]
  refine tk 13 (v := ?_) hHeld ?_ ?_; rotate_left; (focus (intro w hSw; (try dsimp only at hSw); go_simp; (try with_reducible rfl)))
  try simp only [Act.put, s1, s2, s3, s4, s5, s6]
  refine wpAnyH_done (by kernel_rfl) ?_ _
  go_wp2_with fail
  go_ret
  exact ⟨⟨false, rfl, by constructor <;> intro h; cases h; exact absurd (H1.out.2 h.2.1) (by simp)⟩, B.out⟩
 have E2 := hide (H1.out.1 (by simp))
 clear H1
 refine tk 6 (v := ?_) hHeld ?_ ?_; rotate_left; (focus (intro w hSw; (try dsimp only at hSw); go_simp; (try with_reducible rfl)))
 try simp only [Act.put, s1, s2, s3, s4, s5, s6]
 refine tk 7 (v := ?_) hHeld ?_ ?_; rotate_left; (focus (intro w hSw; (try dsimp only at hSw); go_simp; (try with_reducible rfl)))
 try simp only [Act.put, s1, s2, s3, s4, s5, s6]
 refine tk 8 (v := ?_) hHeld ?_ ?_; rotate_left; (focus (intro w hSw; (try dsimp only at hSw); go_simp; (try with_reducible rfl)))
 try simp only [Act.put, s1, s2, s3, s4, s5, s6]
 refine r1 9 (fun K hK => ?_)
 go_simp
 go_at_call 13; refine Calls.mono (rqsmall_f _ 0 (by omega) (by omega)) ?_; rintro e wx ⟨y, rfl, hy, ry, bx⟩; have HY := hide (show y.r = 0 from hy); have RY := hide ry; clear hy ry; replace P := hide (P.out.step bx); replace HK := hide (HK.out.step bx); replace B := hide (Below.step B.out B.out.size bx); clear bx
 try dsimp only
 refine hK.out _ _ ?_ (fun hHeld => ?_); (focus ((try dsimp only); exact P.out.all)); clear hK K
 try simp only [Act.put, s1, s2, s3, s4, s5, s6]
 refine r1 10 (fun K hK => ?_)
 go_simp
 go_at_call 99; refine Calls.mono (kept_f (k := k) (q := y) (L := L) HK.out.2 RY.out h1 (by omega) (by omega)) ?_; rintro e wx ⟨⟨o, rfl, ho⟩, bx⟩; have H1 := hide (show o = true ↔ Kpt k.s 0 k.x.r by rw [ho, HY.out]); clear ho; replace P := hide (P.out.step bx); replace B := hide (Below.step B.out B.out.size bx); clear bx
 try dsimp only
 refine hK.out _ _ ?_ (fun hHeld => ?_); (focus ((try dsimp only); exact P.out.all)); clear hK K
 try simp only [Act.put, s1, s2, s3, s4, s5, s6]
 refine tk 11 (v := ?_) hHeld ?_ ?_; rotate_left; (focus (intro w hSw; (try dsimp only at hSw); go_simp; (try with_reducible rfl)))
 try simp only [Act.put, s1, s2, s3, s4, s5, s6]
 refine tk 12 (v := ?_) hHeld ?_ ?_; rotate_left; (focus (intro w hSw; (try dsimp only at hSw); go_simp; (try with_reducible rfl)))
 try simp only [Act.put, s1, s2, s3, s4, s5, s6]
 refine tk 13 (v := ?_) hHeld ?_ ?_; rotate_left; (focus (intro w hSw; (try dsimp only at hSw); go_simp; (try with_reducible rfl)))
 try simp only [Act.put, s1, s2, s3, s4, s5, s6]
 refine wpAnyH_done (by kernel_rfl) ?_ _
 go_wp2_with fail
 go_ret
 exact ⟨⟨_, rfl, by
  have h9 := H1.out
  cases o
  ·exact ⟨fun _ => ⟨E1.out, E2.out, fun h => absurd (h9.2 h) (by simp)⟩, fun _ => rfl⟩
  ·exact ⟨fun h => absurd h (by simp), fun h => absurd (h9.1 rfl) h.2.2⟩⟩, B.out⟩
theorem take_nextk {d : List Tx} {k : Nat} {x : Tx} {p : Tm → Prop} (h : ∀ t ∈ tms (d.take k), p t) (hx : d[k]? = some x) (hp : p (tm x)) : ∀ t ∈ tms (d.take (k + 1)), p t := by
 intro t ht
 obtain ⟨y, hy, rfl⟩ := List.mem_map.1 ht
 rw [List.take_add_one, hx] at hy
 rcases List.mem_append.1 hy with hy | hy
 ·exact h _ (List.mem_map.2 ⟨y, hy, rfl⟩)
 ·simp at hy
  subst hy
  exact hp
set_option maxHeartbeats 8000000 in
theorem rwhole_f {w : World} {v u : Value} {d : List Tx} {fl : List Bool} {L : Nat} (hv : Tv w v d L) (hu : Lr eb1 1 w u fl) (hf : Fm (tms d)) (h1 : 1 ≤ L) (hL : L ≤ 1000000000) :
  Calls Tryz.prog 92 #[v, u] w fun e w' => BRet (∀ t ∈ tms d, bAt fl t.1 ∧ Isw t.2) e ∧ Below w.heap.size w w' := by
 obtain ⟨A, c, e1, hc1, hc2, hc3⟩ := id hv.1
 obtain ⟨D, m, e2, hd1, hd2, hd3⟩ := id hu
 obtain ⟨n, hlen⟩ : ∃ n, n = d.length := ⟨_, rfl⟩
 obtain ⟨q, hq⟩ : ∃ q, q = fl.length := ⟨_, rfl⟩
 rw [← hlen] at e1 hc1
 rw [← hq] at e2 hd1
 subst e1 e2
 have HV := hide hv
 have HU := hide hu
 have HN := hide hlen
 have HQ := hide hq
 have HF := hide hf
 unfold maxLen at hc2 hd2
 clear hv hu hc3 hd3 hlen hq hf
 go_enter Tryz.func92, Tryz.ntmps92
 go_wp2_with fail
 go_loopw [5] (fun iv wr => ∃ k : Nat, k ≤ n ∧ iv = .int .i64 (k : Int) ∧ Hid (Below w.heap.size w wr) ∧ Hid (∀ t ∈ tms (d.take k), bAt fl t.1 ∧ Isw t.2)) (fun iv _ => n - (intOf iv).toNat)
 case atStart => exact ⟨0, Nat.zero_le _, rfl, hide (Below.refl _ _), hide (by intro t ht; simp [tms] at ht)⟩
 case round =>
  obtain ⟨k, hk, rfl, B, K⟩ := hrel
  by_cases hlt : k < n
  ·obtain ⟨x, hx⟩ := len_of (d := d) (k := k) (by rw [← HN.out]; exact hlt)
   have hm : x ∈ d := List.mem_of_getElem? hx
   have ht : tm x ∈ tms d := List.mem_map.2 ⟨x, hm, rfl⟩
   obtain ⟨j, hj⟩ : ∃ j : Nat, x.c = (j : Int) := ⟨x.c.toNat, by have := (HF.out.2 (tm x) ht).1; have h2 : (tm x).1 = x.c := rfl; omega⟩
   have RX := hide ((HV.out.2 x hm).step B.out)
   obtain ⟨b, off, rfl, hb, hc⟩ := (HV.out.1.step B.out).get hx
   have c0 := hc 0 _ rfl
   have c1 := hc 1 _ rfl
   have c2 := hc 2 _ rfl
   have c3 := hc 3 _ rfl
   rw [Nat.add_zero, hj] at c0
   have l0 : (0 : Int) ≤ (k : Int) := by omega
   have l1 : (k : Int) < (n : Int) := by omega
   have HX := hide hx
   have HT := hide ht
   by_cases hge : (q : Int) ≤ (j : Int)
   ·have g0 : q ≤ j := by omega
    have t0 : decide (q ≤ j) = true := decide_eq_true g0
    have HO := hide (show ¬ bAt fl x.c by rw [hj]; exact bAt_out (.inr (by rw [← HQ.out]; exact hge)))
    clear hc hb hx ht hm hge hj
    go_wp2_with fail
    go_ret
    exact ⟨⟨false, rfl, by constructor <;> intro h; cases h; exact absurd (h _ HT.out).1 HO.out⟩, B.out⟩
   ·have g0 : ¬ q ≤ j := by omega
    have t0 : decide (q ≤ j) = false := decide_eq_false g0
    obtain ⟨o, ho⟩ := len_of (d := fl) (k := j) (by rw [← HQ.out]; omega)
    have HB := hide (show bAt fl x.c ↔ o = true by rw [hj]; exact bAt_in ho)
    obtain ⟨g, of2, rfl, hg, hcc⟩ := (HU.out.step B.out).get ho
    have d0 := hcc 0 _ rfl
    rw [Nat.mul_one, Nat.add_zero] at d0
    have l2 : (0 : Int) ≤ (j : Int) := by omega
    have l3 : (j : Int) < (q : Int) := by omega
    clear hc hb hx ht hm hge hj hcc hg ho
    cases o
    ·go_wp2_with fail
     go_ret
     exact ⟨⟨false, rfl, by constructor <;> intro h; cases h; exact absurd (HB.out.1 (h _ HT.out).1) (by simp)⟩, B.out⟩
    ·go_wp2_with fail
     refine (rof_f (L := L) RX.out h1 (by omega)).mono ?_
     rintro e wx ⟨y, rfl, hy, ry, bx⟩
     have HY := hide hy
     have RY := hide ry
     replace B := hide (Below.step B.out B.out.size bx)
     clear hy ry bx c0 c1 c2 c3 d0
     go_wp2_with fail
     refine (rqwhole_any (r := y.r) RY.out (by omega)).mono ?_
     rintro e wz ⟨rfl, bx⟩
     obtain ⟨o, ho⟩ : ∃ o, o = decide (((y.r.floor : Int) : Rat) = y.r) := ⟨_, rfl⟩
     rw [← ho]
     have H2 := hide (show o = true ↔ Isw x.x.r by rw [ho, decide_eq_true_iff, HY.out]; rfl)
     replace B := hide (Below.step B.out B.out.size bx)
     clear ho bx
     cases o
     ·go_wp2_with fail
      go_ret
      exact ⟨⟨false, rfl, by constructor <;> intro h; cases h; exact absurd (H2.out.2 (h _ HT.out).2) (by simp)⟩, B.out⟩
     ·go_wp2_with fail
      exact ⟨⟨k + 1, by omega, by go_num, B, hide (take_nextk K.out HX.out ⟨HB.out.2 (by simp), H2.out.1 (by simp)⟩)⟩, by simp [intOf]; omega⟩
  ·obtain rfl : k = n := by omega
   have KK := hide (show ∀ t ∈ tms d, bAt fl t.1 ∧ Isw t.2 by have h := K.out; rwa [List.take_of_length_le (by rw [← HN.out]; exact Nat.le_refl _)] at h)
   clear K
   go_wp2_with fail
   go_ret
   exact ⟨⟨true, rfl, by constructor <;> intro h; exact KK.out; rfl⟩, B.out⟩
theorem alloc_new_below (W : World) (o : Obj) : Below W.heap.size W (W.alloc o) := (Below.refl _ _).alloc (Nat.le_refl _) o
set_option maxHeartbeats 4000000 in
theorem rform_g {w : World} {k : Kx} {L : Nat} (hk : Kv w k L) (hn : k.d.length ≤ 1000) (h1 : 1 ≤ L) (hL : L ≤ 100000) :
  Calls Tryz.prog 37 #[kx k] w (KfRet w k (k.d.length * (5 * L + 1) + 6 + 5 * L)) := by
 obtain ⟨hv, hr⟩ := hk
 have b2 : Below w.heap.size w ((w.alloc (kbox k)).alloc kblk).drew := (((Below.refl _ _).alloc (Nat.le_refl _) _).alloc (by simp) _).drew
 have Z := hide (show Kz ((w.alloc (kbox k)).alloc kblk).drew (w.heap.size + 1) by
  have h := Kz.new (w.alloc (kbox k))
  have h2 : Kz ((w.alloc (kbox k)).alloc kblk) (w.heap.size + 1) := by simpa using h
  exact h2)
 have P := hide (show Kq ((w.alloc (kbox k)).alloc kblk).drew w.heap.size k from
  ((Kq.new w k).step ((Below.refl _ _).alloc (Nat.le_refl _) kblk)).step (Below.refl _ _).drew)
 have HV := hide (hv.step b2)
 have HR := hide (hr.step b2)
 have B := hide b2
 have HN := hide hn
 have hg0 : w.heap.size ≠ w.heap.size + 1 := by omega
 clear hv hr b2 hn
 go_enter Tryz.func37, Tryz.ntmps37
 go_wp2_with fail
 generalize hW0 : ((w.alloc (kbox k)).alloc kblk) = W0 at *
 go_region_held3 (fun W => W.cell? ⟨w.heap.size, 0, none⟩ = some (.int .i64 k.s) ∧ W.cell? ⟨w.heap.size, 1, none⟩ = some (sv k.v) ∧ W.cell? ⟨w.heap.size, 2, none⟩ = some (.bool k.x.s) ∧ W.cell? ⟨w.heap.size, 3, none⟩ = some (sv k.x.u) ∧ W.cell? ⟨w.heap.size, 4, none⟩ = some (sv k.x.t))
  (first | with_reducible exact P.out.all | with_reducible exact (((((P.out.other hg0 _ _).other hg0 _ _).other hg0 _ _).other hg0 _ _).other hg0 _ _).all)
  (first
   | (go_at_call 67; refine Calls.mono (vmake_fl (L := L) HV.out HN.out h1 hL) ?_; rintro e wx ⟨v1, d1, rfl, t1, f1, g1, l1, bx⟩; obtain ⟨A5, n5, c5, rfl⟩ := rv_sl t1.tv.1; have T1 := hide (t1.mono (B' := w.heap.size) B.out.size); have F1 := hide f1; have G1 := hide g1; have N1 := hide l1; replace P := hide (P.out.step bx); replace HR := hide (HR.out.step bx); replace Z := hide (Z.out.step bx); replace B := hide (Below.step B.out B.out.size bx); clear t1 f1 g1 l1 bx)
   | (go_at_call 16; refine Calls.mono (rof_f (L := L) HR.out h1 (by omega)) ?_; rintro e wx ⟨q, rfl, hq, rq, bx⟩; have HQ := hide hq; have RQ := hide rq; replace T1 := hide (T1.out.step bx); replace P := hide (P.out.step bx); replace Z := hide (Z.out.step bx); replace B := hide (Below.step B.out B.out.size bx); clear hq rq bx)
   | (go_at_call 69; refine Calls.mono (rfto_g RQ.out (by omega)) ?_; rintro e wx ⟨y, rfl, e3, r3, bx⟩; replace P := hide (P.out.step bx); obtain ⟨⟨k0, k1, k2, k3, k4⟩, ⟨f0, f1, f2, f3, f4⟩, fin⟩ := kg_put (w0 := w) (k := ⟨k.s, (A5, n5, c5), d1, y⟩) (L := k.d.length * (5 * L + 1) + 6 + 5 * L) ⟨(T1.out.step bx).more (by omega), (r3.mono (B' := w.heap.size) B.out.size).more (by omega), F1.out⟩ (Z.out.step bx) (by omega) (Below.step B.out B.out.size bx); dsimp only at fin; have E3 := hide (show y.r = k.x.r by rw [e3, HQ.out]); clear e3))
 all_goals
  have F9 := hide fin
  clear fin
  go_wp2_with fail
  exact bodyPost_ret (kret rfl _ _ _ #[.int .i64 k.s, .slice A5 n5 c5, .bool y.s, sv y.u, sv y.t] rfl rfl F9.out.1) rfl ⟨⟨k.s, (A5, n5, c5), d1, y⟩, rfl, F9.out.2.1, rfl, G1.out, E3.out, N1.out, F9.out.2.2⟩
set_option maxHeartbeats 16000000 in
theorem rround_f {w : World} {k : Kx} {u : Value} {fl : List Bool} {L : Nat} (hk : Kv w k L) (hu : Lr eb1 1 w u fl) (hn : k.d.length ≤ 1000) (h1 : 1 ≤ L) (hL : L ≤ 100000) :
  Calls Tryz.prog 36 #[kx k, u] w (RnRet w k fl (k.d.length * (5 * L + 1) + 6 + 5 * L + 7)) := by
 have b2 : Below w.heap.size w ((w.alloc (kbox k)).alloc kblk) := ((Below.refl _ _).alloc (Nat.le_refl _) _).alloc (by simp) _
 have Z := hide (show Kz ((w.alloc (kbox k)).alloc kblk) (w.heap.size + 1) by
  have h := Kz.new (w.alloc (kbox k))
  have h2 : Kz ((w.alloc (kbox k)).alloc kblk) (w.heap.size + 1) := by simpa using h
  exact h2)
 have P := hide (show Kq ((w.alloc (kbox k)).alloc kblk) w.heap.size k from (Kq.new w k).step ((Below.refl _ _).alloc (Nat.le_refl _) kblk))
 have HK := hide (hk.step b2)
 have HU := hide hu
 have B := hide b2
 have HN := hide hn
 have HM' := hide (show k.d.length * (5 * L + 1) + 6 + 5 * L ≤ 1000000000 by
  have := Nat.mul_le_mul hn (show 5 * L + 1 ≤ 500001 by omega)
  omega)
 have HLL := hide (show 1 ≤ k.d.length * (5 * L + 1) + 6 + 5 * L by omega)
 have SZ := hide b2.size
 obtain ⟨A1, n1, c1, rfl⟩ := rv_sl hu
 clear hk hu hn b2
 obtain ⟨p0, p1, p2, p3, p4⟩ := P.out.all
 go_enter Tryz.func36, Tryz.ntmps36
 go_wp2_with fail
 generalize ((w.alloc (kbox k)).alloc kblk) = W0 at *
 refine (sense_c k.s _).mono ?_
 rintro e w4 ⟨⟨o, rfl, ho⟩, rfl⟩
 have H1 := hide ho
 clear ho
 cases o
 case false =>
  obtain ⟨z0, z1, z2, z3, z4⟩ := Z.out.all
  have y0 := Z.out.fz 0
  have y1 := Z.out.fz 1
  have y2 := Z.out.fz 2
  have y3 := Z.out.fz 3
  have y4 := Z.out.fz 4
  have F9 := hide (kz_fit (w0 := w) Z.out (by omega) B.out)
  go_wp2_with fail
  exact bodyPost_ret (kret2 rfl _ _ _ #[.int .i64 0, .slice none 0 0, .bool false, .slice none 0 0, .slice none 0 0] rfl rfl F9.out.1) rfl ⟨.inl ⟨rfl, fun h => absurd (H1.out.2 h) (by simp)⟩, F9.out.2⟩
 have S1 := hide (H1.out.1 (by simp))
 clear H1
 go_wp2_with fail
 refine (rform_g HK.out HN.out h1 hL).mono ?_
 rintro e w2 ⟨k', rfl, kg, es, ga, er, hl, bx⟩
 have KG := hide (kg.mono (B' := w.heap.size) SZ.out)
 replace P := hide (P.out.step bx)
 replace Z := hide (Z.out.step bx)
 replace HK := hide (HK.out.step bx)
 replace B := hide (Below.step B.out B.out.size bx)
 have ES := hide es
 have GA := hide ga
 have ER := hide er
 have HL := hide hl
 clear kg es ga er hl bx p0 p1 p2 p3 p4
 have lz := Z.out.lt
 have Q := hide (Kq.new w2 k')
 replace P := hide (P.out.step (alloc_new_below _ (kbox k')))
 replace Z := hide (Z.out.step (alloc_new_below _ (kbox k')))
 replace HK := hide (HK.out.step (alloc_new_below _ (kbox k')))
 replace KG := hide (KG.out.step (alloc_new_below _ (kbox k')))
 replace B := hide (B.out.alloc (by have := B.out.size; omega) (kbox k'))
 obtain ⟨r0, r1, r2, r3, r4⟩ := Q.out.all
 have HU3 := hide (HU.out.step B.out)
 go_wp2_with fail
 generalize (w2.alloc (kbox k')) = w3 at *
 generalize w2.heap.size = g6 at *
 refine (rwhole_f (L := k.d.length * (5 * L + 1) + 6 + 5 * L) KG.out.1.tv HU3.out KG.out.2.2 HLL.out (by have := HM'.out; omega)).mono ?_
 rintro e w4 ⟨⟨o, rfl, ho⟩, bx⟩
 have H1 := hide (show o = true ↔ Whl (tms k.d) (bAt fl) by rw [ho]; exact (whl_fm KG.out.2.2 GA.out (bAt fl)).symm)
 replace P := hide (P.out.step bx)
 replace Z := hide (Z.out.step bx)
 replace HK := hide (HK.out.step bx)
 replace KG := hide (KG.out.step bx)
 replace Q := hide (Q.out.step bx)
 replace B := hide (Below.step B.out B.out.size bx)
 clear ho bx r0 r1 r2 r3 r4 HU3
 cases o
 case false =>
  obtain ⟨z0, z1, z2, z3, z4⟩ := Z.out.all
  have y0 := Z.out.fz 0
  have y1 := Z.out.fz 1
  have y2 := Z.out.fz 2
  have y3 := Z.out.fz 3
  have y4 := Z.out.fz 4
  have F9 := hide (kz_fit (w0 := w) Z.out (by omega) B.out)
  go_wp2_with fail
  exact bodyPost_ret (kret2 rfl _ _ _ #[.int .i64 0, .slice none 0 0, .bool false, .slice none 0 0, .slice none 0 0] rfl rfl F9.out.1) rfl ⟨.inr (.inl ⟨rfl, S1.out, fun h => absurd (H1.out.2 h) (by simp)⟩), F9.out.2⟩
 have WH := hide (H1.out.1 (by simp))
 clear H1
 obtain ⟨p0, p1, p2, p3, p4⟩ := P.out.all
 go_wp2_with fail
 refine (rof_f (L := L) HK.out.2 h1 (by omega)).mono ?_
 rintro e w5 ⟨q, rfl, hq, rq, bx⟩
 have HQ := hide hq
 have RQ := hide (rq.more (show 5 * L ≤ 5 * L + 6 by omega))
 replace P := hide (P.out.step bx)
 replace Z := hide (Z.out.step bx)
 replace KG := hide (KG.out.step bx)
 replace Q := hide (Q.out.step bx)
 replace B := hide (Below.step B.out B.out.size bx)
 clear hq rq bx p0 p1 p2 p3 p4 HK
 have F := hide (Fq.new w5 q.s (sv q.u) (sv q.t))
 replace P := hide (P.out.step (alloc_new_below _ (fqbox q.s (sv q.u) (sv q.t))))
 replace Z := hide (Z.out.step (alloc_new_below _ (fqbox q.s (sv q.u) (sv q.t))))
 replace KG := hide (KG.out.step (alloc_new_below _ (fqbox q.s (sv q.u) (sv q.t))))
 replace Q := hide (Q.out.step (alloc_new_below _ (fqbox q.s (sv q.u) (sv q.t))))
 replace RQ := hide (RQ.out.step (alloc_new_below _ (fqbox q.s (sv q.u) (sv q.t))))
 replace B := hide (B.out.alloc (by have := B.out.size; omega) (fqbox q.s (sv q.u) (sv q.t)))
 have hs : ((k.s == 1) = true ∧ (k.s == 2) = false ∧ (k.s == 3) = false ∧ Hid (k.s = 1)) ∨ ((k.s == 1) = false ∧ (k.s == 2) = true ∧ (k.s == 3) = false ∧ Hid (k.s = 2)) ∨ ((k.s == 1) = false ∧ (k.s == 2) = false ∧ (k.s == 3) = true ∧ Hid (k.s = 3)) := by
  rcases S1.out with h | h | h <;> rw [h]
  ·exact .inl ⟨rfl, rfl, rfl, hide rfl⟩
  ·exact .inr (.inl ⟨rfl, rfl, rfl, hide rfl⟩)
  ·exact .inr (.inr ⟨rfl, rfl, rfl, hide rfl⟩)
 have hn6 : w.heap.size ≠ g6 := by omega
 have hz6 : w.heap.size + 1 ≠ g6 := by omega
 have hl6 : w.heap.size ≤ g6 := by omega
 obtain ⟨p0, p1, p2, p3, p4⟩ := P.out.all
 obtain ⟨f0, f1, f2, -, -, -⟩ := F.out.all
 rcases hs with ⟨t1, t2, t3, K1⟩ | ⟨t1, t2, t3, K1⟩ | ⟨t1, t2, t3, K1⟩
 ·go_wp2_with fail
  generalize (w5.alloc (fqbox q.s (sv q.u) (sv q.t))) = w6 at *
  generalize w5.heap.size = g7 at *
  clear p0 p1 p2 p3 p4 f0 f1 f2 F
  refine (rqfloor_any (r := q.r) (L := 5 * L + 6) RQ.out (by omega) (by omega)).mono ?_
  rintro e w7 ⟨v7, rfl, hz, bx⟩
  have HZ := hide hz
  replace P := hide (P.out.step bx)
  replace Z := hide (Z.out.step bx)
  replace KG := hide (KG.out.step bx)
  replace Q := hide (Q.out.step bx)
  replace B := hide (Below.step B.out B.out.size bx)
  clear hz bx
  go_wp2_with fail
  refine (rwhole_any (L := 5 * L + 7) HZ.out (by omega) (by omega)).mono ?_
  rintro e w8 ⟨v8, rfl, hz, bx⟩
  replace HZ := hide hz
  replace P := hide (P.out.step bx)
  replace Z := hide (Z.out.step bx)
  replace KG := hide (KG.out.step bx)
  replace Q := hide (Q.out.step bx)
  replace B := hide (Below.step B.out B.out.size bx)
  clear hz bx
  go_wp2_with fail
  refine (rfto_g HZ.out (by omega)).mono ?_
  rintro e w9 ⟨y, rfl, hy, ry, bx⟩
  have RY := hide (ry.mono (B' := w.heap.size) B.out.size)
  have HY := hide hy
  replace P := hide (P.out.step bx)
  replace Z := hide (Z.out.step bx)
  replace KG := hide (KG.out.step bx)
  replace Q := hide (Q.out.step bx)
  replace B := hide (Below.step B.out B.out.size bx)
  clear hy ry bx HZ RQ
  obtain ⟨p0, p1, p2, p3, p4⟩ := ((((P.out.other hn6 2 (.bool y.s)).other hn6 3 (sv y.u)).other hn6 4 (sv y.t))).all
  obtain ⟨u0, u1, u2, u3, u4⟩ := Q.out.all
  have x2 := Q.out.fz 2
  have x3 := Q.out.fz 3
  have x4 := Q.out.fz 4
  have Q3 := hide (Q.out.putx y)
  have Z3 := hide (Z.out.other3 hz6 2 3 4 (.bool y.s) (sv y.u) (sv y.t))
  have KG3 := hide (show Kg (((w9.setCell ⟨g6, 2, none⟩ (.bool y.s)).setCell ⟨g6, 3, none⟩ (sv y.u)).setCell ⟨g6, 4, none⟩ (sv y.t)) w.heap.size ⟨k'.s, k'.v, k'.d, y⟩ (k.d.length * (5 * L + 1) + 6 + 5 * L + 7) from
   ⟨(KG.out.1.grownK (only_putx w9 g6 (.bool y.s) (sv y.u) (sv y.t)) Q.out.kb).more (by omega), (RY.out.grownK (only_putx w9 g6 (.bool y.s) (sv y.u) (sv y.t)) Q.out.kb).more (by omega), KG.out.2.2⟩)
  have B3 := hide (below_sets B.out hl6 2 3 4 (.bool y.s) (sv y.u) (sv y.t))
  obtain ⟨r0, r1, r2, r3, r4⟩ := Q3.out.all
  obtain ⟨⟨z0, z1, z2, z3, z4⟩, ⟨y0, y1, y2, y3, y4⟩, fin⟩ := kg_put (w0 := w) KG3.out Z3.out (by omega) B3.out
  have F9 := hide fin
  clear P Z KG B fin Z3 KG3 B3 Q3
  dsimp only at r0 r1 r2 r3 r4
  go_wp2_with fail
  exact bodyPost_ret (kret2 rfl _ _ _ #[.int .i64 k'.s, sv k'.v, .bool y.s, sv y.u, sv y.t] rfl rfl F9.out.1) rfl ⟨.inr (.inr ⟨⟨k'.s, k'.v, k'.d, y⟩, rfl, S1.out, WH.out, F9.out.2.1, .inl ⟨K1.out, by rw [ES.out]; exact K1.out, GA.out, by rw [HY.out, HQ.out]⟩, HL.out⟩), F9.out.2.2⟩
 ·go_wp2_with fail
  generalize (w5.alloc (fqbox q.s (sv q.u) (sv q.t))) = w6 at *
  generalize w5.heap.size = g7 at *
  clear p0 p1 p2 p3 p4 f0 f1 f2 F
  refine (rqceil_any (r := q.r) (L := 5 * L + 6) RQ.out (by omega) (by omega)).mono ?_
  rintro e w7 ⟨v7, rfl, hz, bx⟩
  have HZ := hide hz
  replace P := hide (P.out.step bx)
  replace Z := hide (Z.out.step bx)
  replace KG := hide (KG.out.step bx)
  replace Q := hide (Q.out.step bx)
  replace B := hide (Below.step B.out B.out.size bx)
  clear hz bx
  go_wp2_with fail
  refine (rwhole_any (L := 5 * L + 7) HZ.out (by omega) (by omega)).mono ?_
  rintro e w8 ⟨v8, rfl, hz, bx⟩
  replace HZ := hide hz
  replace P := hide (P.out.step bx)
  replace Z := hide (Z.out.step bx)
  replace KG := hide (KG.out.step bx)
  replace Q := hide (Q.out.step bx)
  replace B := hide (Below.step B.out B.out.size bx)
  clear hz bx
  go_wp2_with fail
  refine (rfto_g HZ.out (by omega)).mono ?_
  rintro e w9 ⟨y, rfl, hy, ry, bx⟩
  have RY := hide (ry.mono (B' := w.heap.size) B.out.size)
  have HY := hide hy
  replace P := hide (P.out.step bx)
  replace Z := hide (Z.out.step bx)
  replace KG := hide (KG.out.step bx)
  replace Q := hide (Q.out.step bx)
  replace B := hide (Below.step B.out B.out.size bx)
  clear hy ry bx HZ RQ
  obtain ⟨p0, p1, p2, p3, p4⟩ := ((((P.out.other hn6 2 (.bool y.s)).other hn6 3 (sv y.u)).other hn6 4 (sv y.t))).all
  obtain ⟨u0, u1, u2, u3, u4⟩ := Q.out.all
  have x2 := Q.out.fz 2
  have x3 := Q.out.fz 3
  have x4 := Q.out.fz 4
  have Q3 := hide (Q.out.putx y)
  have Z3 := hide (Z.out.other3 hz6 2 3 4 (.bool y.s) (sv y.u) (sv y.t))
  have KG3 := hide (show Kg (((w9.setCell ⟨g6, 2, none⟩ (.bool y.s)).setCell ⟨g6, 3, none⟩ (sv y.u)).setCell ⟨g6, 4, none⟩ (sv y.t)) w.heap.size ⟨k'.s, k'.v, k'.d, y⟩ (k.d.length * (5 * L + 1) + 6 + 5 * L + 7) from
   ⟨(KG.out.1.grownK (only_putx w9 g6 (.bool y.s) (sv y.u) (sv y.t)) Q.out.kb).more (by omega), (RY.out.grownK (only_putx w9 g6 (.bool y.s) (sv y.u) (sv y.t)) Q.out.kb).more (by omega), KG.out.2.2⟩)
  have B3 := hide (below_sets B.out hl6 2 3 4 (.bool y.s) (sv y.u) (sv y.t))
  obtain ⟨r0, r1, r2, r3, r4⟩ := Q3.out.all
  obtain ⟨⟨z0, z1, z2, z3, z4⟩, ⟨y0, y1, y2, y3, y4⟩, fin⟩ := kg_put (w0 := w) KG3.out Z3.out (by omega) B3.out
  have F9 := hide fin
  clear P Z KG B fin Z3 KG3 B3 Q3
  dsimp only at r0 r1 r2 r3 r4
  go_wp2_with fail
  exact bodyPost_ret (kret2 rfl _ _ _ #[.int .i64 k'.s, sv k'.v, .bool y.s, sv y.u, sv y.t] rfl rfl F9.out.1) rfl ⟨.inr (.inr ⟨⟨k'.s, k'.v, k'.d, y⟩, rfl, S1.out, WH.out, F9.out.2.1, .inr (.inl ⟨K1.out, by rw [ES.out]; exact K1.out, GA.out, by rw [HY.out, HQ.out]⟩), HL.out⟩), F9.out.2.2⟩
 ·go_wp2_with fail
  generalize (w5.alloc (fqbox q.s (sv q.u) (sv q.t))) = w6 at *
  generalize w5.heap.size = g7 at *
  clear p0 p1 p2 p3 p4 f0 f1 f2 F
  refine (rqwhole_any (r := q.r) RQ.out (by omega)).mono ?_
  rintro e w7 ⟨rfl, bx⟩
  obtain ⟨o, ho⟩ : ∃ o, o = decide (((q.r.floor : Int) : Rat) = q.r) := ⟨_, rfl⟩
  rw [← ho]
  have H2 := hide (show o = true ↔ Isw k.x.r by rw [ho, decide_eq_true_iff, HQ.out]; rfl)
  replace P := hide (P.out.step bx)
  replace Z := hide (Z.out.step bx)
  replace KG := hide (KG.out.step bx)
  replace Q := hide (Q.out.step bx)
  replace B := hide (Below.step B.out B.out.size bx)
  clear ho bx RQ
  cases o
  case true =>
   obtain ⟨r0, r1, r2, r3, r4⟩ := Q.out.all
   obtain ⟨⟨z0, z1, z2, z3, z4⟩, ⟨y0, y1, y2, y3, y4⟩, fin⟩ := kg_put (w0 := w) (L := (k.d.length * (5 * L + 1) + 6 + 5 * L + 7)) ⟨KG.out.1.more (by omega), KG.out.2.1.more (by omega), KG.out.2.2⟩ Z.out (by omega) B.out
   have F9 := hide fin
   clear P Z KG B fin
   go_wp2_with fail
   exact bodyPost_ret (kret2 rfl _ _ _ #[.int .i64 k'.s, sv k'.v, .bool k'.x.s, sv k'.x.u, sv k'.x.t] rfl rfl F9.out.1) rfl ⟨.inr (.inr ⟨k', rfl, S1.out, WH.out, F9.out.2.1, .inr (.inr (.inl ⟨K1.out, by rw [ES.out]; exact K1.out, GA.out, ER.out, H2.out.1 (by simp)⟩)), HL.out⟩), F9.out.2.2⟩
  have NW := hide (show ¬ Isw k.x.r from fun h => absurd (H2.out.2 h) (by simp))
  clear H2
  go_wp2_with fail
  refine (rqsmall_f _ 1 (by omega) (by omega)).mono ?_
  rintro e w8 ⟨y, rfl, hy, ry, bx⟩
  have RY := hide ry
  have HY := hide hy
  replace Z := hide (Z.out.step bx)
  replace B := hide (Below.step B.out B.out.size bx)
  clear hy ry bx KG P Q
  go_wp2_with fail
  refine (rfto_g RY.out (by omega)).mono ?_
  rintro e w9 ⟨z, rfl, hz, rz, bx⟩
  have RZ := hide (rz.mono (B' := w.heap.size) B.out.size)
  have HZ := hide hz
  replace Z := hide (Z.out.step bx)
  replace B := hide (Below.step B.out B.out.size bx)
  clear hz rz bx RY
  obtain ⟨⟨z0, z1, z2, z3, z4⟩, ⟨y0, y1, y2, y3, y4⟩, fin⟩ := kg_put (w0 := w) (k := ⟨2, (none, 0, 0), [], z⟩) (L := (k.d.length * (5 * L + 1) + 6 + 5 * L + 7)) ⟨⟨Ow.nil _ _ _ _ _, fun x hx => by cases hx⟩, RZ.out.more (by omega), Fm.nil⟩ Z.out (by omega) B.out
  have F9 := hide fin
  clear Z B fin RZ
  go_wp2_with fail
  exact bodyPost_ret (kret2 rfl _ _ _ #[.int .i64 2, .slice none 0 0, .bool z.s, sv z.u, sv z.t] rfl rfl F9.out.1) rfl ⟨.inr (.inr ⟨⟨2, (none, 0, 0), [], z⟩, rfl, S1.out, WH.out, F9.out.2.1, .inr (.inr (.inr ⟨K1.out, rfl, rfl, by rw [HZ.out, HY.out]; rfl, NW.out⟩)), Nat.zero_le _⟩), F9.out.2.2⟩
theorem Ow.notnew {W : World} {B : Nat} {v : Value} {d : List Tx} (ho : Ow 77 et 4 W B v d) : some W.heap.size ≠ v.ownBlock := by
 rcases ho.form with ⟨rfl, _⟩ | ⟨g', cap, cur, rfl, hB, hlt, hh, r⟩
 ·intro e; cases e
 ·intro e
  have e : W.heap.size = g' := by simpa [Value.ownBlock] using e
  omega
theorem Spo.kq {B : Nat} {row : Option Nat} {w w' : World} {g : Nat} {k : Kx} (h : Spo B row w w') (hq : Kq w g k) (hr : some g ≠ row) : Kq w' g k :=
 h.2.2.2 g _ _ _ (by decide) hr hq
def Ksp (W : World) (B : Nat) (k : Kx) : Prop := Sp W B (sv k.v) k.d ∧ (Wr W B k.x.u ∧ k.x.u.2.1 ≤ maxLen) ∧ Wr W B k.x.t ∧ k.x.t.2.1 ≤ maxLen
theorem Ksp.step {W W' : World} {B : Nat} {k : Kx} (h : Ksp W B k) (hb : Below W.heap.size W W') : Ksp W' B k := ⟨h.1.step hb, ⟨h.2.1.1.step hb, h.2.1.2⟩, h.2.2.1.step hb, h.2.2.2⟩
theorem Ksp.mono {W : World} {B B' : Nat} {k : Kx} (h : Ksp W B k) (hB : B' ≤ B) : Ksp W B' k := ⟨h.1.mono hB, ⟨h.2.1.1.mono hB, h.2.1.2⟩, h.2.2.1.mono hB, h.2.2.2⟩
theorem Ksp.spo {W W' : World} {B B' : Nat} {row : Option Nat} {k : Kx} (h : Ksp W B k) (s : Spo B' row W W') (hr : (sv k.v).ownBlock = none ∨ (sv k.v).ownBlock ≠ row) : Ksp W' B k :=
 ⟨h.1.spo s hr, ⟨s.2.2.1 _ _ h.2.1.1, h.2.1.2⟩, s.2.2.1 _ _ h.2.2.1, h.2.2.2⟩
theorem Kg.ksp {W : World} {B L : Nat} {k : Kx} (h : Kg W B k L) (hL : L ≤ 1000000000) : Ksp W B k := by
 have h1 := h.2.1.1.n_le
 exact ⟨h.1.sp hL, ⟨h.2.1.2.1, by unfold maxLen; omega⟩, h.2.1.2.2, by unfold maxLen; omega⟩
set_option maxHeartbeats 4000000 in
theorem kspoil_w {w : World} {B : Nat} {k : Kx} (hk : Ksp w B k) (hB : B ≤ w.heap.size) (hn : k.d.length ≤ 1000000) :
  Calls Tryz.prog 30 #[kx k] w fun e w' => e = .returned (.tuple #[]) ∧ Spo B (sv k.v).ownBlock w w' := by
 have b2 := alloc_new_below w (kbox k)
 have P := hide (Kq.new w k)
 have HK := hide (hk.step b2)
 have S0 := hide (Spo.of_below (row := (sv k.v).ownBlock) b2 hB)
 have hr := hide hk.1.1.notnew
 have hs : B ≤ (w.alloc (kbox k)).heap.size := Nat.le_trans hB b2.size
 clear hk b2
 generalize hW0 : w.alloc (kbox k) = W0 at *
 obtain ⟨p0, p1, p2, p3, p4⟩ := P.out.all
 subst hW0
 go_enter Tryz.func30, Tryz.ntmps30
 go_wp2_with fail
 generalize (w.alloc (kbox k)) = W0 at *
 refine (spoil_v HK.out.1 hs hn).mono ?_
 rintro e w1 ⟨rfl, s1⟩
 have P1 := hide (s1.kq P.out hr.out)
 have H1 := hide (s1.2.2.1 _ _ HK.out.2.1.1)
 have H2 := hide (s1.2.2.1 _ _ HK.out.2.2.1)
 have H3 := hide HK.out.2.1.2
 have H4 := hide HK.out.2.2.2
 have S1 := hide (S0.out.trans s1)
 have hs1 : B ≤ w1.heap.size := Nat.le_trans hs s1.2.1
 clear p0 p1 p2 p3 p4 s1 P HK S0
 obtain ⟨p0, p1, p2, p3, p4⟩ := P1.out.all
 go_wp2_with fail
 refine (rspoil_w H1.out H2.out H3.out H4.out hs1).mono ?_
 rintro e w2 ⟨rfl, s2⟩
 have S2 := hide (S1.out.trans (Spo.of s2))
 clear p0 p1 p2 p3 p4 s2
 go_wp2_with fail
 go_end0
 exact ⟨rfl, S2.out⟩
theorem run_joinN {α : Type} {enc : α → List Value} {k : Nat} {P : Program} {t e : TypeId} {i : TypeInfo} {z : Value} {by_ : Nat} (ht : P.underlying t = some (.slice e)) (hi : P.info? e = some i) (hz : i.zero = some z)
  (hsize : i.size = k) (hby : i.bytes = by_) (hzs : z.cells.size = k) (h0 : 0 < k) (hk : ∀ x, (enc x).length = k) (h1 : ∀ x, ∀ u ∈ enc x, u.oneCell' = true) (ty : TypeId) (wr : World) (B : Nat) (v : Value) (d : List α) (ad : Addr) (c : Nat) (d2 : List α)
  (hx : Lr enc k wr (.slice (some ad) d2.length c) d2) (hown : Ow e enc k wr B v d) (hlen : d.length + d2.length ≤ 140737488355328) (hb8 : by_ ≤ 1) (hB : B ≤ wr.heap.size) :
  ∃ v' w', (Builtin.append_ #[t, t] ty #[v, .slice (some ad) d2.length c]).run P wr = .ok v' w' ∧ Ow e enc k w' B v' (d ++ d2) ∧
   (wr.grownBy w' v.ownBlock ∧ (v'.ownBlock = v.ownBlock ∨ v'.ownBlock = some wr.heap.size)) := by
 obtain ⟨v', w', hr, h2, h3, -, h5⟩ := run_append_own_at (P := P) wr B t ty e i z k by_ ht hi hz hsize hby hzs h0 v d.length _ hown
  ad d2.length c (flat enc d2) (flat_len hk d2) (by
   intro j u hj
   have hjl := (List.getElem?_eq_some_iff.1 hj).1
   rw [flat_len hk] at hjl
   have hdiv : j / k < d2.length := Nat.div_lt_of_lt_mul (by rw [Nat.mul_comm]; exact hjl)
   have hmod : j % k < k := Nat.mod_lt _ h0
   have hj2 : j = j / k * k + j % k := by rw [Nat.mul_comm]; exact (Nat.div_add_mod j k).symm
   have ex : d2[j / k]? = some (d2[j / k]'hdiv) := List.getElem?_eq_getElem hdiv
   obtain ⟨b, off, c', e1, hlt, hc⟩ := hx.at_ ex
   cases e1
   have e2 := flat_get hk d2 (j / k) _ ex (j % k) hmod
   rw [← hj2, hj] at e2
   have h4 := hc (j % k) u e2.symm
   have e3 : (⟨b, off, none⟩ : Addr).add j = ⟨b, off + j, none⟩ := by
    unfold Addr.add
    by_cases h : j = 0
    ·subst h; simp
    ·simp [h]
   rw [e3]
   rwa [show off + j / k * k + j % k = off + j by omega] at h4) (by
    intro u hu
    obtain ⟨x, _, h⟩ := flat_mem hu
    exact h1 x u h) (by unfold maxLen; omega)
   (by
    have h := Nat.mul_le_mul hlen hb8
    omega) hB
 refine ⟨v', w', hr, ?_, h3, h5⟩
 unfold Ow
 rw [List.length_append, flat_append]
 exact h2
theorem step_joinN {α : Type} {enc : α → List Value} {k : Nat} {P : Program} {ops : Array Oper} {o : Oper} {a : Act} {K : Act → World → Prop} {Q : Exit → Act → World → Prop} {E : Prop} (hgd : o.guard = none) (s y : Operand) (t : TypeId)
  (ho : o.op = .call { callee := .builtin .append, args := #[s, y], argTypes := #[t, t] })
  {e : TypeId} {i : TypeInfo} {z : Value} {by_ : Nat} (ht : P.underlying t = some (.slice e)) (hi : P.info? e = some i) (hz : i.zero = some z)
  (hsize : i.size = k) (hby : i.bytes = by_) (hzs : z.cells.size = k) (h0 : 0 < k) (hk : ∀ x, (enc x).length = k) (h1 : ∀ x, ∀ u ∈ enc x, u.oneCell' = true) (wr : World) (B : Nat) (v u : Value) (d d2 : List α)
  (hx : Lr enc k wr u d2) (hown : Ow e enc k wr B v d) (hs : a.eval s = v) (hy : a.eval y = u)
  (hlen : d.length + d2.length ≤ 140737488355328) (hb8 : by_ ≤ 1) (hB : B ≤ wr.heap.size)
  (h : ∀ v' w', Ow e enc k w' B v' (d ++ d2) → wr.grownBy w' v.ownBlock → K (a.put o.dst v') w') :
  if Region.wanted o (yielded ops a.tmps) = true then Oper.wp P o a wr K Q else E := by
 rw [if_pos (by simp [Region.wanted, hgd])]
 obtain ⟨A, c, rfl, hc1, hc2, hc3⟩ := id hx
 cases A with
 | none =>
  have h0 : d2 = [] := by
   rcases Nat.eq_zero_or_pos d2.length with h | h
   ·exact List.length_eq_zero_iff.1 h
   ·obtain ⟨b, off, e, _⟩ := hc3 h
    cases e
  subst h0
  have hv : ∃ A n c, v = .slice A n c ∧ n ≤ c := by
   rcases hown.form with ⟨rfl, _⟩ | ⟨g, cap, cur, rfl, _, _, _, h, _⟩
   ·exact ⟨none, 0, 0, rfl, Nat.le_refl _⟩
   ·exact ⟨_, _, _, rfl, h⟩
  obtain ⟨A, n, c0, rfl, hnc⟩ := hv
  have hr := run_join0 (P := P) (ty := o.type) ht hi wr A n c0 c hnc
  unfold Oper.wp execOp
  simp only [ho, resolve, invoke, builtin, Sem.run_bind, Sem.run_pure, Result.andThen_ok, List.map_toArray, List.map_cons, List.map_nil, hs, hy, hr, List.length_nil]
  refine h _ _ ?_ (only_refl _ _)
  rw [List.append_nil]
  exact hown
 | some ad =>
  obtain ⟨v', w', hr, h2, h3⟩ := run_joinN (P := P) ht hi hz hsize hby hzs h0 hk h1 o.type wr B v d ad c d2 hx hown hlen hb8 hB
  unfold Oper.wp execOp
  simp only [ho, resolve, invoke, builtin, Sem.run_bind, Sem.run_pure, Result.andThen_ok, List.map_toArray, List.map_cons, List.map_nil, hs, hy, hr]
  exact h v' w' h2 h3.1
def kz0 : Kx := ⟨0, (none, 0, 0), [], ⟨false, (none, 0, 0), (none, 0, 0), 0⟩⟩
def RnO (W : World) (B : Nat) (k : Kx) (fl : List Bool) (M : Nat) (r : Kx) (n : Int) : Prop :=
 (n = 2 ∧ r = kz0 ∧ ¬ IsS k.s) ∨ (n = 241 ∧ r = kz0 ∧ IsS k.s ∧ ¬ Whl (tms k.d) (bAt fl)) ∨
  (n = 0 ∧ IsS k.s ∧ Whl (tms k.d) (bAt fl) ∧ Kg W B r M ∧ Rnd k.s (tms k.d) k.x.r r.s (tms r.d) r.x.r ∧ r.d.length ≤ k.d.length)
theorem RnRet.one {w w' : World} {k : Kx} {fl : List Bool} {M : Nat} {e : Ending} (h : RnRet w k fl M e w') :
  ∃ (r : Kx) (n : Int), e = .returned (.tuple #[kx r, .int .i64 n]) ∧ RnO w' w.heap.size k fl M r n ∧ Below w.heap.size w w' := by
 obtain ⟨⟨rfl, h⟩ | ⟨rfl, h, h2⟩ | ⟨r, rfl, h1, h2, h3, h4, h5⟩, b⟩ := h
 ·exact ⟨kz0, 2, rfl, .inl ⟨rfl, rfl, h⟩, b⟩
 ·exact ⟨kz0, 241, rfl, .inr (.inl ⟨rfl, rfl, h, h2⟩), b⟩
 ·exact ⟨r, 0, rfl, .inr (.inr ⟨rfl, h1, h2, h3, h4, h5⟩), b⟩
theorem RnO.step {W W' : World} {B M : Nat} {k r : Kx} {fl : List Bool} {n : Int} (h : RnO W B k fl M r n) (hb : Below W.heap.size W W') : RnO W' B k fl M r n := by
 rcases h with h | h | ⟨h0, h1, h2, h3, h4⟩
 ·exact .inl h
 ·exact .inr (.inl h)
 ·exact .inr (.inr ⟨h0, h1, h2, h3.step hb, h4⟩)
theorem RnO.grownK {W W' : World} {B M g : Nat} {k r : Kx} {fl : List Bool} {n : Int} (h : RnO W B k fl M r n) (hg : W.grownBy W' (some g)) (hk : Kb W g) : RnO W' B k fl M r n := by
 rcases h with h | h | ⟨h0, h1, h2, h3, h4⟩
 ·exact .inl h
 ·exact .inr (.inl h)
 ·exact .inr (.inr ⟨h0, h1, h2, h3.grownK hg hk, h4⟩)
theorem RnO.two {W W' : World} {B B' M M' : Nat} {k k' r r' : Kx} {fl : List Bool} {n n' : Int} (h : RnO W B k fl M r n) (h' : RnO W' B' k' fl M' r' n') (es : k.s = k'.s) (et : tms k.d = tms k'.d) (ex : k.x.r = k'.x.r) : n = n' := by
 unfold RnO at h h'
 rw [← es, ← et] at h'
 rcases h with ⟨rfl, -, h⟩ | ⟨rfl, -, h, h2⟩ | ⟨rfl, h, h2, -⟩ <;> rcases h' with ⟨rfl, -, k⟩ | ⟨rfl, -, k, k2⟩ | ⟨rfl, k, k2, -⟩ <;>
  first | rfl | exact absurd ‹IsS _› ‹¬ IsS _› | exact absurd ‹Whl _ _› ‹¬ Whl _ _›
theorem rnd_same {s s1 s2 : Int} {ts us vs : List Tm} {r q1 q2 : Rat} (h : Rnd s ts r s1 us q1) (k : Rnd s ts r s2 vs q2) (f1 : Fm us) (f2 : Fm vs) : s1 = s2 ∧ us = vs ∧ q1 = q2 := by
 rcases h with ⟨e, rfl, a, rfl⟩ | ⟨e, rfl, a, rfl⟩ | ⟨e, rfl, a, rfl, i⟩ | ⟨e, rfl, rfl, rfl, i⟩ <;>
  rcases k with ⟨e', rfl, b, rfl⟩ | ⟨e', rfl, b, rfl⟩ | ⟨e', rfl, b, rfl, i'⟩ | ⟨e', rfl, rfl, rfl, i'⟩ <;>
  first
   | omega
   | exact ⟨rfl, f1.unique f2 (fun c hc => (a c hc).trans (b c hc).symm), rfl⟩
   | exact ⟨rfl, rfl, rfl⟩
   | exact absurd ‹Isw _› ‹¬ Isw _›
theorem RnO.eqs {W W' : World} {B B' M M' : Nat} {k k' r r' : Kx} {fl : List Bool} (h : RnO W B k fl M r 0) (h' : RnO W' B' k' fl M' r' 0) (es : k.s = k'.s) (et : tms k.d = tms k'.d) (ex : k.x.r = k'.x.r) :
  Kg W B r M ∧ Kg W' B' r' M' ∧ (r.s = r'.s ∧ tms r.d = tms r'.d ∧ r.x.r = r'.x.r) ∧ r.d.length ≤ k.d.length := by
 rcases h with ⟨h, -⟩ | ⟨h, -⟩ | ⟨-, h1, h2, h3, h4, h5⟩
 ·omega
 ·omega
 rcases h' with ⟨h, -⟩ | ⟨h, -⟩ | ⟨-, k1, k2, k3, k4, k5⟩
 ·omega
 ·omega
 rw [← es, ← et, ← ex] at k4
 exact ⟨h3, k3, rnd_same h4 k4 h3.2.2 k3.2.2, h5⟩
theorem RnO.bad {W : World} {B M : Nat} {k r : Kx} {fl : List Bool} {n : Int} (h : RnO W B k fl M r n) (hn : n ≠ 0) : r = kz0 := by
 rcases h with ⟨-, h, -⟩ | ⟨-, h, -⟩ | ⟨h, -⟩
 ·exact h
 ·exact h
 ·exact absurd h hn
theorem RnO.cases {W : World} {B M : Nat} {k r : Kx} {fl : List Bool} {n : Int} (h : RnO W B k fl M r n) : n = 2 ∨ n = 241 ∨ n = 0 := by
 rcases h with ⟨h, -⟩ | ⟨h, -⟩ | ⟨h, -⟩
 ·exact .inl h
 ·exact .inr (.inl h)
 ·exact .inr (.inr h)
theorem kg_apart {W0 W1 : World} {B0 B1 L M : Nat} {f r : Kx} (h : Kg W0 B0 f L) (hB : W0.heap.size ≤ B1) (k : Kg W1 B1 r M) : (sv r.v).ownBlock = none ∨ (sv r.v).ownBlock ≠ (sv f.v).ownBlock := by
 rcases k.1.1.form with ⟨e, _⟩ | ⟨g, cap, cur, e, hg, _⟩
 ·exact .inl (by rw [e]; rfl)
 ·refine .inr ?_
  rcases h.1.1.form with ⟨e', _⟩ | ⟨g', cap', cur', e', hg', hl', _⟩
  ·rw [e, e']
   simp [Value.ownBlock]
  ·rw [e, e']
   simp [Value.ownBlock]
   omega
theorem bool_iff {a b : Bool} {P : Prop} (h : a = true ↔ P) (k : b = true ↔ P) : a = b := by
 cases a <;> cases b <;> simp_all
theorem Kx.eqs {W W' : World} {a q : Kx} {zs : List Zt} {z : Zt} {L M : Nat} (h : Kw W a zs z L) (k : Kw W' q zs z M) : tms q.d = tms a.d ∧ q.x.r = a.x.r ∧ q.d.length = a.d.length :=
 ⟨k.1.tms h.1, k.2.2.1.trans h.2.2.1.symm, k.1.2.1.trans h.1.2.1.symm⟩
theorem info_bl : (Tryz.prog.info? 4).map (fun i => (i.zero, i.size, i.bytes)) = some (some (.bool false), 1, 1) := by kernel_rfl
theorem Kz.offB {W W' : World} {B g : Nat} {v : Value} {d : List Bool} (hq : Kz W g) (hT : Ow 4 eb1 1 W B v d) (hg : W.grownBy W' v.ownBlock) : Kz W' g := by
 refine (hg.block g hq.lt (fun he => ?_)).trans hq
 rcases hT.form with ⟨rfl, _⟩ | ⟨g', cap, cur, rfl, hB, hlt, hh, r⟩
 ·cases he
 ·have e : g = g' := by simpa [Value.ownBlock] using he
  subst e
  unfold Kz at hq
  rw [hq] at hh
  injection hh with hh
  injection hh with _ e2 _
  exact absurd e2 (by decide)
def RdTwo (W0 : World) (q : Kx) (fl : List Bool) (M : Nat) (s9 s10 : Value) (wx : World) : Prop :=
 ∃ (g : Nat) (r : Kx) (n : Int) (bs : Nat), s9 = .pointer (some ⟨g, 0, none⟩) ∧ s10 = .int .i64 n ∧ W0.heap.size ≤ g ∧ W0.heap.size ≤ bs ∧ Kq wx g r ∧ RnO wx bs q fl M r n ∧ Below W0.heap.size W0 wx
end Go.Proofs.YtfnngcaalpknlaaGreat
