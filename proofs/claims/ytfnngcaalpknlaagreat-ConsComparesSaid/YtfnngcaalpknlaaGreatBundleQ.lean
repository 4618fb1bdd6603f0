/-
  Shared texts, one behind the other: Kref2, Kref4, Kjn.
-/
import Derived.Test.YtfnngcaalpknlaaGreatBundleN
import Derived.Test.YtfnngcaalpknlaaGreatBundleH
import Derived.Test.YtfnngcaalpknlaaGreatKdrw
import Derived.Test.YtfnngcaalpknlaaGreatEl

namespace Go.Proofs.YtfnngcaalpknlaaGreat
open Go.RowKit Go.Proofs.YtfnngcaalpknlaaGreat.Num
set_option linter.unusedVariables false
set_option linter.unusedSimpArgs false
set_option maxRecDepth 100000
theorem Tw.grownK {W W' : World} {B L g : Nat} {v : Value} {d : List Tx} {zs : List Zt} (h : Tw W B v d zs L) (hg : W.grownBy W' (some g)) (hk : Kb W g) : Tw W' B v d zs L :=
 ⟨h.1.kept hg (hk.ne h.1), h.2.1, fun i x z hx hz => ⟨(h.2.2 i x z hx hz).1, (h.2.2 i x z hx hz).2.grownT hg (fun g' e => by cases e; exact hk.ot)⟩⟩
theorem Zg.grownK {W W' : World} {B L g : Nat} {x : Rx} {z : Zt} (h : Zg W B x z L) (hg : W.grownBy W' (some g)) (hk : Kb W g) : Zg W' B x z L := h.grownT hg (fun g' e => by cases e; exact hk.ot)
def Kw (W : World) (k : Kx) (zs : List Zt) (z : Zt) (L : Nat) : Prop := Tl W (sv k.v) k.d zs L ∧ Zf W k.x z L
theorem Kw.step {W W' : World} {k : Kx} {zs : List Zt} {z : Zt} {L : Nat} (h : Kw W k zs z L) (hb : Below W.heap.size W W') : Kw W' k zs z L := ⟨h.1.step hb, h.2.step hb⟩
theorem Kw.kv {W : World} {k : Kx} {zs : List Zt} {z : Zt} {L : Nat} (h : Kw W k zs z L) : Kv W k L := ⟨h.1.tv, h.2.ra⟩
def Kwg (W : World) (B : Nat) (k : Kx) (zs : List Zt) (z : Zt) (L : Nat) : Prop := Tw W B (sv k.v) k.d zs L ∧ Zg W B k.x z L
theorem Kwg.step {W W' : World} {B : Nat} {k : Kx} {zs : List Zt} {z : Zt} {L : Nat} (h : Kwg W B k zs z L) (hb : Below W.heap.size W W') : Kwg W' B k zs z L := ⟨h.1.step hb, h.2.step hb⟩
theorem Kwg.kw {W : World} {B : Nat} {k : Kx} {zs : List Zt} {z : Zt} {L : Nat} (h : Kwg W B k zs z L) : Kw W k zs z L := ⟨h.1.tl, h.2.1⟩
theorem kw_of {W : World} {k : Kx} {L : Nat} (h : Kv W k L) : ∃ zs z, Kw W k zs z L := by
 obtain ⟨zs, hz⟩ := tl_of h.1
 obtain ⟨z, -, h1⟩ := zf_of h.2 0
 exact ⟨zs, z, hz, h1⟩
theorem kwg_put {w0 w : World} {k : Kx} {zs : List Zt} {z : Zt} {L g : Nat} (h : Kwg w w0.heap.size k zs z L) (hz : Kz w g) (hg0 : w0.heap.size ≤ g) (hb : Below w0.heap.size w0 w) :
  (w.cell? ⟨g, 0, none⟩ = some (.int .i64 0) ∧ w.cell? ⟨g, 1, none⟩ = some (.slice none 0 0) ∧ w.cell? ⟨g, 2, none⟩ = some (.bool false) ∧ w.cell? ⟨g, 3, none⟩ = some (.slice none 0 0) ∧ w.cell? ⟨g, 4, none⟩ = some (.slice none 0 0)) ∧
   (w.frozen? ⟨g, 0, none⟩ = false ∧ w.frozen? ⟨g, 1, none⟩ = false ∧ w.frozen? ⟨g, 2, none⟩ = false ∧ w.frozen? ⟨g, 3, none⟩ = false ∧ w.frozen? ⟨g, 4, none⟩ = false) ∧
   (((((w.setCell ⟨g, 0, none⟩ (.int .i64 k.s)).setCell ⟨g, 1, none⟩ (sv k.v)).setCell ⟨g, 2, none⟩ (.bool k.x.s)).setCell ⟨g, 3, none⟩ (sv k.x.u)).setCell ⟨g, 4, none⟩ (sv k.x.t)).heap[g]? = some (.cells #[.int .i64 k.s, sv k.v, .bool k.x.s, sv k.x.u, sv k.x.t] 54 (0, 0)) ∧
    Kwg (((((w.setCell ⟨g, 0, none⟩ (.int .i64 k.s)).setCell ⟨g, 1, none⟩ (sv k.v)).setCell ⟨g, 2, none⟩ (.bool k.x.s)).setCell ⟨g, 3, none⟩ (sv k.x.u)).setCell ⟨g, 4, none⟩ (sv k.x.t)) w0.heap.size k zs z L ∧
    Below w0.heap.size w0 (((((w.setCell ⟨g, 0, none⟩ (.int .i64 k.s)).setCell ⟨g, 1, none⟩ (sv k.v)).setCell ⟨g, 2, none⟩ (.bool k.x.s)).setCell ⟨g, 3, none⟩ (sv k.x.u)).setCell ⟨g, 4, none⟩ (sv k.x.t)) :=
 ⟨hz.all, ⟨hz.fz 0, hz.fz 1, hz.fz 2, hz.fz 3, hz.fz 4⟩, put5_heap hz rfl _ _ _ _ _, ⟨h.1.grownK (only_put5 w g _ _ _ _ _) hz.kb, h.2.grownK (only_put5 w g _ _ _ _ _) hz.kb⟩, below_put5 hb hg0 _ _ _ _ _⟩
set_option maxHeartbeats 4000000 in
theorem kcopy_w {w : World} {k : Kx} {zs : List Zt} {z : Zt} {L : Nat} (hk : Kw w k zs z L) (hn : k.d.length ≤ 1000000) (hL : L ≤ 17592186044000) :
  Calls Tryz.prog 33 #[kx k] w fun e w' => ∃ k' : Kx, e = .returned (kx k') ∧ k'.s = k.s ∧ Kwg w' w.heap.size k' zs z L ∧ Below w.heap.size w w' := by
 obtain ⟨hv, hr⟩ := hk
 have b2 : Below w.heap.size w ((w.alloc (kbox k)).alloc kblk).drew := (((Below.refl _ _).alloc (Nat.le_refl _) _).alloc (by simp) _).drew
 have Z := hide (show Kz ((w.alloc (kbox k)).alloc kblk).drew (w.heap.size + 1) by
  have h := Kz.new (w.alloc (kbox k))
  have h2 : Kz ((w.alloc (kbox k)).alloc kblk) (w.heap.size + 1) := by simpa using h
  exact h2)
 have P := hide (show Kq ((w.alloc (kbox k)).alloc kblk).drew w.heap.size k from
  ((Kq.new w k).step ((Below.refl _ _).alloc (Nat.le_refl _) kblk)).step (Below.refl _ _).drew)
 have HV := hide (hv.step b2)
 have HR := hide (hr.step b2)
 have B := hide b2
 have HN := hide hn
 have hg0 : w.heap.size ≠ w.heap.size + 1 := by omega
 clear hv hr b2 hn
 go_enter Tryz.func33, Tryz.ntmps33
 go_wp2_with fail
 generalize hW0 : ((w.alloc (kbox k)).alloc kblk) = W0 at *
 go_region_held3 (fun W => W.cell? ⟨w.heap.size, 0, none⟩ = some (.int .i64 k.s) ∧ W.cell? ⟨w.heap.size, 1, none⟩ = some (sv k.v) ∧ W.cell? ⟨w.heap.size, 2, none⟩ = some (.bool k.x.s) ∧ W.cell? ⟨w.heap.size, 3, none⟩ = some (sv k.x.u) ∧ W.cell? ⟨w.heap.size, 4, none⟩ = some (sv k.x.t))
  (first | with_reducible exact P.out.all | with_reducible exact (((((P.out.other hg0 _ _).other hg0 _ _).other hg0 _ _).other hg0 _ _).other hg0 _ _).all)
  (first
   | (go_at_call 84; refine Calls.mono (copy_v (L := L) HV.out hL HN.out) ?_; rintro e wx ⟨v1, d1, rfl, t1, bx⟩; obtain ⟨A5, n5, c5, rfl⟩ := rv_sl t1.tl.1; have T1 := hide t1; replace P := hide (P.out.step bx); replace HR := hide (HR.out.step bx); replace Z := hide (Z.out.step bx); have B1 := hide (show W0.drew.heap.size = W0.drew.heap.size from rfl); have T2 := hide (show Tw wx w.heap.size (.slice A5 n5 c5) d1 zs L from ⟨t1.1.mono B.out.size, t1.2.1, fun i x z hx hz => ⟨(t1.2.2 i x z hx hz).1, (t1.2.2 i x z hx hz).2.mono B.out.size⟩⟩); replace B := hide (Below.step B.out B.out.size bx); clear t1 bx T1 B1)
   | (go_at_call 71; refine Calls.mono (rcopy_w (L := L) HR.out hL) ?_; rintro e wx ⟨y, rfl, r3, bx⟩; replace P := hide (P.out.step bx); obtain ⟨⟨k0, k1, k2, k3, k4⟩, ⟨f0, f1, f2, f3, f4⟩, fin⟩ := kwg_put (w0 := w) (k := ⟨k.s, (A5, n5, c5), d1, y⟩) (L := L) ⟨T2.out.step bx, r3.mono (B' := w.heap.size) B.out.size⟩ (Z.out.step bx) (by omega) (Below.step B.out B.out.size bx); dsimp only at fin))
 all_goals
  have F9 := hide fin
  clear fin
  go_wp2_with fail
  exact bodyPost_ret (kret rfl _ _ _ #[.int .i64 k.s, .slice A5 n5 c5, .bool y.s, sv y.u, sv y.t] rfl rfl F9.out.1) rfl ⟨⟨k.s, (A5, n5, c5), d1, y⟩, rfl, rfl, F9.out.2.1, F9.out.2.2⟩
theorem samecons_w {w : World} {a b : Kx} {zs : List Zt} {z : Zt} {L M : Nat} (ha : Kw w a zs z L) (hb : Kw w b zs z M) (hs : a.s = b.s) :
  Calls Tryz.prog 29 #[kx a, kx b] w fun e w' => e = .returned (.bool true) ∧ Below w.heap.size w w' := by
 have b2 : Below w.heap.size w ((w.alloc (kbox a)).alloc (kbox b)) := ((Below.refl _ _).alloc (Nat.le_refl _) _).alloc (by simp) _
 have P := hide (show Kq ((w.alloc (kbox a)).alloc (kbox b)) w.heap.size a from (Kq.new w a).step ((Below.refl _ _).alloc (Nat.le_refl _) (kbox b)))
 have P2 := hide (show Kq ((w.alloc (kbox a)).alloc (kbox b)) (w.heap.size + 1) b by
  have h := Kq.new (w.alloc (kbox a)) b
  have h2 : Kq ((w.alloc (kbox a)).alloc (kbox b)) (w.heap.size + 1) b := by simpa using h
  exact h2)
 have HA := hide (ha.step b2)
 have HB := hide (hb.step b2)
 have B := hide b2
 clear ha hb b2
 obtain ⟨p0, p1, p2, p3, p4⟩ := P.out.all
 obtain ⟨q0, q1, q2, q3, q4⟩ := P2.out.all
 have t1 : (a.s == b.s) = true := beq_iff_eq.2 hs
 clear hs
 go_enter Tryz.func29, Tryz.ntmps29
 go_wp2_with fail
 refine (same_v HA.out.1 HB.out.1).mono ?_
 rintro e w1 ⟨rfl, bx⟩
 replace P := hide (P.out.step bx)
 replace P2 := hide (P2.out.step bx)
 replace HA := hide (HA.out.step bx)
 replace HB := hide (HB.out.step bx)
 replace B := hide (Below.step B.out B.out.size bx)
 clear bx p0 p1 p2 p3 p4 q0 q1 q2 q3 q4
 obtain ⟨p0, p1, p2, p3, p4⟩ := P.out.all
 obtain ⟨q0, q1, q2, q3, q4⟩ := P2.out.all
 go_wp2_with fail
 refine (rsame_l HA.out.2.rl HB.out.2.rl).mono ?_
 rintro e w1 ⟨rfl, bx⟩
 replace B := hide (Below.step B.out B.out.size bx)
 clear bx p0 p1 p2 p3 p4 q0 q1 q2 q3 q4
 go_wp2_with fail
 go_ret
 exact ⟨rfl, B.out⟩
set_option maxHeartbeats 8000000 in
theorem rfalse_f {w : World} {k : Kx} {L : Nat} (hk : Kv w k L) (hn : k.d.length ≤ 1000) (h1 : 1 ≤ L) (hL : L ≤ 100000) :
  Calls Tryz.prog 39 #[kx k] w fun e w' => BRet (Fls k.s (tms k.d) k.x.r) e ∧ Below w.heap.size w w' := by
 have b2 : Below w.heap.size w (w.alloc (kbox k)).drew := ((Below.refl _ _).alloc (Nat.le_refl _) _).drew
 have P := hide (show Kq (w.alloc (kbox k)).drew w.heap.size k from (Kq.new w k).step (Below.refl _ _).drew)
 have HK := hide (hk.step b2)
 have B := hide b2
 have HN := hide hn
 clear hk b2 hn
 go_enter Tryz.func39, Tryz.ntmps39
 go_wp2_with fail
 generalize hW0 : (w.alloc (kbox k)) = W0 at *
 refine wp_region_held_drew (S := fun W => W.cell? ⟨w.heap.size, 0, none⟩ = some (.int .i64 k.s) ∧ W.cell? ⟨w.heap.size, 1, none⟩ = some (sv k.v) ∧ W.cell? ⟨w.heap.size, 2, none⟩ = some (.bool k.x.s) ∧ W.cell? ⟨w.heap.size, 3, none⟩ = some (sv k.x.u) ∧ W.cell? ⟨w.heap.size, 4, none⟩ = some (sv k.x.t)) (by kernel_rfl) ?_ (fun hHeld => ?_)
 ·try dsimp only
  exact P.out.all
 refine tk 0 (v := ?_) hHeld ?_ ?_; rotate_left; (focus (intro w hSw; (try dsimp only at hSw); go_simp; (try with_reducible rfl)))
 try simp only [Act.put, s1, s2, s3, s4, s5, s6]
 refine tk 1 (v := ?_) hHeld ?_ ?_; rotate_left; (focus (intro w hSw; (try dsimp only at hSw); go_simp; (try with_reducible rfl)))
 try simp only [Act.put, s1, s2, s3, s4, s5, s6]
 refine r1 2 (fun K hK => ?_)
 go_simp
 go_at_call 46; refine Calls.mono (sense_c k.s _) ?_; rintro e wx ⟨⟨o, rfl, ho⟩, hw⟩; subst wx; have H1 := hide ho; clear ho
 try dsimp only
 refine hK.out _ _ ?_ (fun hHeld => ?_); (focus ((try dsimp only); exact P.out.all)); clear hK K
 try simp only [Act.put, s1, s2, s3, s4, s5, s6]
 cases o
 case false =>
  refine tk 3 (v := ?_) hHeld ?_ ?_; rotate_left; (focus (intro w hSw; (try dsimp only at hSw); go_simp; (try with_reducible rfl)))
  try simp only [Act.put, s1, s2, s3, s4, s5, s6]
  refine sh 4 hHeld ?_
  try simp only [Act.put, s1, s2, s3, s4, s5, s6]
  refine r1 5 (fun K hK => ?_)
  go_simp
  refine hK.out _ _ ?_ (fun hHeld => ?_); (focus ((try dsimp only); exact P.out.all)); clear hK K
  try simp only [Act.put, s1, s2, s3, s4, s5, s6]
  refine tk 6 (v := ?_) hHeld ?_ ?_; rotate_left; (focus (intro w hSw; (try dsimp only at hSw); go_simp; (try with_reducible rfl)))
  try simp only [Act.put, s1, s2, s3, s4, s5, s6]
  refine tk 7 (v := ?_) hHeld ?_ ?_; rotate_left; (focus (intro w hSw; (try dsimp only at hSw); go_simp; (try with_reducible rfl)))
  try simp only [Act.put, s1, s2, s3, s4, s5, s6]
  refine sh 8 hHeld ?_
  try simp only [Act.put, s1, s2, s3, s4, s5, s6]
  refine r1 9 (fun K hK => ?_)
  go_simp
  refine hK.out _ _ ?_ (fun hHeld => ?_); (focus ((try dsimp only); exact P.out.all)); clear hK K
  try simp only [Act.put, s1, s2, s3, s4, s5, s6]
  refine r1 10 (fun K hK => ?_)
  go_simp
  refine hK.out _ _ ?_ (fun hHeld => ?_); (focus ((try dsimp only); exact P.out.all)); clear hK K
  try simp only [Act.put, s1, s2, s3, s4, s5, s6]
  refine sh 11 hHeld ?_
  try simp only [Act.put, s1, s2, s3, s4, s5, s6]
  refine tk 12 (v := ?_) hHeld ?_ ?_; rotate_left; (focus (intro w hSw; (try dsimp only at hSw); go_simp; (try with_reducible rfl)))
  try simp only [Act.put, s1, s2, s3, s4, s5, s6]
  refine tk 13 (v := ?_) hHeld ?_ ?_; rotate_left; (focus (intro w hSw; (try dsimp only at hSw); go_simp; (try with_reducible rfl)))
  try simp only [Act.put, s1, s2, s3, s4, s5, s6]
  refine wpAnyH_done (by kernel_rfl) ?_ _
  go_wp2_with fail
  go_ret
  exact ⟨⟨false, rfl, by constructor <;> intro h; cases h; exact absurd (H1.out.2 h.1) (by simp)⟩, B.out⟩
 have E1 := hide (H1.out.1 (by simp))
 clear H1
 refine tk 3 (v := ?_) hHeld ?_ ?_; rotate_left; (focus (intro w hSw; (try dsimp only at hSw); go_simp; (try with_reducible rfl)))
 try simp only [Act.put, s1, s2, s3, s4, s5, s6]
 refine tk 4 (v := ?_) hHeld ?_ ?_; rotate_left; (focus (intro w hSw; (try dsimp only at hSw); go_simp; (try with_reducible rfl)))
 try simp only [Act.put, s1, s2, s3, s4, s5, s6]
 refine r1 5 (fun K hK => ?_)
 go_simp
 go_at_call 98; refine Calls.mono (bare_f (k := k) (L := L) HK.out HN.out h1 hL) ?_; rintro e wx ⟨⟨o, rfl, ho⟩, bx⟩; have H1 := hide ho; clear ho; replace P := hide (P.out.step bx); replace HK := hide (HK.out.step bx); replace B := hide (Below.step B.out B.out.size bx); clear bx
 try dsimp only
 refine hK.out _ _ ?_ (fun hHeld => ?_); (focus ((try dsimp only); exact P.out.all)); clear hK K
 try simp only [Act.put, s1, s2, s3, s4, s5, s6]
 cases o
 case false =>
  refine tk 6 (v := ?_) hHeld ?_ ?_; rotate_left; (focus (intro w hSw; (try dsimp only at hSw); go_simp; (try with_reducible rfl)))
  try simp only [Act.put, s1, s2, s3, s4, s5, s6]
  refine tk 7 (v := ?_) hHeld ?_ ?_; rotate_left; (focus (intro w hSw; (try dsimp only at hSw); go_simp; (try with_reducible rfl)))
  try simp only [Act.put, s1, s2, s3, s4, s5, s6]
  refine sh 8 hHeld ?_
  try simp only [Act.put, s1, s2, s3, s4, s5, s6]
  refine r1 9 (fun K hK => ?_)
  go_simp
  refine hK.out _ _ ?_ (fun hHeld => ?_); (focus ((try dsimp only); exact P.out.all)); clear hK K
  try simp only [Act.put, s1, s2, s3, s4, s5, s6]
  refine r1 10 (fun K hK => ?_)
  go_simp
  refine hK.out _ _ ?_ (fun hHeld => ?_); (focus ((try dsimp only); exact P.out.all)); clear hK K
  try simp only [Act.put, s1, s2, s3, s4, s5, s6]
  refine sh 11 hHeld ?_
  try simp only [Act.put, s1, s2, s3, s4, s5, s6]
  refine tk 12 (v := ?_) hHeld ?_ ?_; rotate_left; (focus (intro w hSw; (try dsimp only at hSw); go_simp; (try with_reducible rfl)))
  try simp only [Act.put, s1, s2, s3, s4, s5, s6]
  refine tk 13 (v := ?_) hHeld ?_ ?_; rotate_left; (focus (intro w hSw; (try dsimp only at hSw); go_simp; (try with_reducible rfl)))
  try simp only [Act.put, s1, s2, s3, s4, s5, s6]
  refine wpAnyH_done (by kernel_rfl) ?_ _
  go_wp2_with fail
  go_ret
  exact ⟨⟨false, rfl, by constructor <;> intro h; cases h; exact absurd (H1.out.2 h.2.1) (by simp)⟩, B.out⟩
 have E2 := hide (H1.out.1 (by simp))
 clear H1
 refine tk 6 (v := ?_) hHeld ?_ ?_; rotate_left; (focus (intro w hSw; (try dsimp only at hSw); go_simp; (try with_reducible rfl)))
 try simp only [Act.put, s1, s2, s3, s4, s5, s6]
 refine tk 7 (v := ?_) hHeld ?_ ?_; rotate_left; (focus (intro w hSw; (try dsimp only at hSw); go_simp; (try with_reducible rfl)))
 try simp only [Act.put, s1, s2, s3, s4, s5, s6]
 refine tk 8 (v := ?_) hHeld ?_ ?_; rotate_left; (focus (intro w hSw; (try dsimp only at hSw); go_simp; (try with_reducible rfl)))
 try simp only [Act.put, s1, s2, s3, s4, s5, s6]
 refine r1 9 (fun K hK => ?_)
 go_simp
 go_at_call 13; refine Calls.mono (rqsmall_f _ 0 (by omega) (by omega)) ?_; rintro e wx ⟨y, rfl, hy, ry, bx⟩; have HY := hide (show y.r = 0 from hy); have RY := hide ry; clear hy ry; replace P := hide (P.out.step bx); replace HK := hide (HK.out.step bx); replace B := hide (Below.step B.out B.out.size bx); clear bx
 try dsimp only
 refine hK.out _ _ ?_ (fun hHeld => ?_); (focus ((try dsimp only); exact P.out.all)); clear hK K
 try simp only [Act.put, s1, s2, s3, s4, s5, s6]
 refine r1 10 (fun K hK => ?_)
 go_simp
 go_at_call 99; refine Calls.mono (kept_f (k := k) (q := y) (L := L) HK.out.2 RY.out h1 (by omega) (by omega)) ?_; rintro e wx ⟨⟨o, rfl, ho⟩, bx⟩; have H1 := hide (show o = true ↔ Kpt k.s 0 k.x.r by rw [ho, HY.out]); clear ho; replace P := hide (P.out.step bx); replace B := hide (Below.step B.out B.out.size bx); clear bx
 try dsimp only
 refine hK.out _ _ ?_ (fun hHeld => ?_); (focus ((try dsimp only); exact P.out.all)); clear hK K
 try simp only [Act.put, s1, s2, s3, s4, s5, s6]
 refine tk 11 (v := ?_) hHeld ?_ ?_; rotate_left; (focus (intro w hSw; (try dsimp only at hSw); go_simp; (try with_reducible rfl)))
 try simp only [Act.put, s1, s2, s3, s4, s5, s6]
 refine tk 12 (v := ?_) hHeld ?_ ?_; rotate_left; (focus (intro w hSw; (try dsimp only at hSw); go_simp; (try with_reducible rfl)))
 try simp only [Act.put, s1, s2, s3, s4, s5, s6]
 refine tk 13 (v := ?_) hHeld ?_ ?_; rotate_left; (focus (intro w hSw; (try dsimp only at hSw); go_simp; (try with_reducible rfl)))
 try simp only [Act.put, s1, s2, s3, s4, s5, s6]
 refine wpAnyH_done (by kernel_rfl) ?_ _
 go_wp2_with fail
 go_ret
 exact ⟨⟨_, rfl, by
  have h9 := H1.out
  cases o
  ·exact ⟨fun _ => ⟨E1.out, E2.out, fun h => absurd (h9.2 h) (by simp)⟩, fun _ => rfl⟩
  ·exact ⟨fun h => absurd h (by simp), fun h => absurd (h9.1 rfl) h.2.2⟩⟩, B.out⟩
theorem take_nextk {d : List Tx} {k : Nat} {x : Tx} {p : Tm → Prop} (h : ∀ t ∈ tms (d.take k), p t) (hx : d[k]? = some x) (hp : p (tm x)) : ∀ t ∈ tms (d.take (k + 1)), p t := by
 intro t ht
 obtain ⟨y, hy, rfl⟩ := List.mem_map.1 ht
 rw [List.take_add_one, hx] at hy
 rcases List.mem_append.1 hy with hy | hy
 ·exact h _ (List.mem_map.2 ⟨y, hy, rfl⟩)
 ·simp at hy
  subst hy
  exact hp
set_option maxHeartbeats 8000000 in
theorem rwhole_f {w : World} {v u : Value} {d : List Tx} {fl : List Bool} {L : Nat} (hv : Tv w v d L) (hu : Lr eb1 1 w u fl) (hf : Fm (tms d)) (h1 : 1 ≤ L) (hL : L ≤ 1000000000) :
  Calls Tryz.prog 92 #[v, u] w fun e w' => BRet (∀ t ∈ tms d, bAt fl t.1 ∧ Isw t.2) e ∧ Below w.heap.size w w' := by
 obtain ⟨A, c, e1, hc1, hc2, hc3⟩ := id hv.1
 obtain ⟨D, m, e2, hd1, hd2, hd3⟩ := id hu
 obtain ⟨n, hlen⟩ : ∃ n, n = d.length := ⟨_, rfl⟩
 obtain ⟨q, hq⟩ : ∃ q, q = fl.length := ⟨_, rfl⟩
 rw [← hlen] at e1 hc1
 rw [← hq] at e2 hd1
 subst e1 e2
 have HV := hide hv
 have HU := hide hu
 have HN := hide hlen
 have HQ := hide hq
 have HF := hide hf
 unfold maxLen at hc2 hd2
 clear hv hu hc3 hd3 hlen hq hf
 go_enter Tryz.func92, Tryz.ntmps92
 go_wp2_with fail
 go_loopw [5] (fun iv wr => ∃ k : Nat, k ≤ n ∧ iv = .int .i64 (k : Int) ∧ Hid (Below w.heap.size w wr) ∧ Hid (∀ t ∈ tms (d.take k), bAt fl t.1 ∧ Isw t.2)) (fun iv _ => n - (intOf iv).toNat)
 case atStart => exact ⟨0, Nat.zero_le _, rfl, hide (Below.refl _ _), hide (by intro t ht; simp [tms] at ht)⟩
 case round =>
  obtain ⟨k, hk, rfl, B, K⟩ := hrel
  by_cases hlt : k < n
  ·obtain ⟨x, hx⟩ := len_of (d := d) (k := k) (by rw [← HN.out]; exact hlt)
   have hm : x ∈ d := List.mem_of_getElem? hx
   have ht : tm x ∈ tms d := List.mem_map.2 ⟨x, hm, rfl⟩
   obtain ⟨j, hj⟩ : ∃ j : Nat, x.c = (j : Int) := ⟨x.c.toNat, by have := (HF.out.2 (tm x) ht).1; have h2 : (tm x).1 = x.c := rfl; omega⟩
   have RX := hide ((HV.out.2 x hm).step B.out)
   obtain ⟨b, off, rfl, hb, hc⟩ := (HV.out.1.step B.out).get hx
   have c0 := hc 0 _ rfl
   have c1 := hc 1 _ rfl
   have c2 := hc 2 _ rfl
   have c3 := hc 3 _ rfl
   rw [Nat.add_zero, hj] at c0
   have l0 : (0 : Int) ≤ (k : Int) := by omega
   have l1 : (k : Int) < (n : Int) := by omega
   have HX := hide hx
   have HT := hide ht
   by_cases hge : (q : Int) ≤ (j : Int)
   ·have g0 : q ≤ j := by omega
    have t0 : decide (q ≤ j) = true := decide_eq_true g0
    have HO := hide (show ¬ bAt fl x.c by rw [hj]; exact bAt_out (.inr (by rw [← HQ.out]; exact hge)))
    clear hc hb hx ht hm hge hj
    go_wp2_with fail
    go_ret
    exact ⟨⟨false, rfl, by constructor <;> intro h; cases h; exact absurd (h _ HT.out).1 HO.out⟩, B.out⟩
   ·have g0 : ¬ q ≤ j := by omega
    have t0 : decide (q ≤ j) = false := decide_eq_false g0
    obtain ⟨o, ho⟩ := len_of (d := fl) (k := j) (by rw [← HQ.out]; omega)
    have HB := hide (show bAt fl x.c ↔ o = true by rw [hj]; exact bAt_in ho)
    obtain ⟨g, of2, rfl, hg, hcc⟩ := (HU.out.step B.out).get ho
    have d0 := hcc 0 _ rfl
    rw [Nat.mul_one, Nat.add_zero] at d0
    have l2 : (0 : Int) ≤ (j : Int) := by omega
    have l3 : (j : Int) < (q : Int) := by omega
    clear hc hb hx ht hm hge hj hcc hg ho
    cases o
    ·go_wp2_with fail
     go_ret
     exact ⟨⟨false, rfl, by constructor <;> intro h; cases h; exact absurd (HB.out.1 (h _ HT.out).1) (by simp)⟩, B.out⟩
    ·go_wp2_with fail
     refine (rof_f (L := L) RX.out h1 (by omega)).mono ?_
     rintro e wx ⟨y, rfl, hy, ry, bx⟩
     have HY := hide hy
     have RY := hide ry
     replace B := hide (Below.step B.out B.out.size bx)
     clear hy ry bx c0 c1 c2 c3 d0
     go_wp2_with fail
     refine (rqwhole_any (r := y.r) RY.out (by omega)).mono ?_
     rintro e wz ⟨rfl, bx⟩
     obtain ⟨o, ho⟩ : ∃ o, o = decide (((y.r.floor : Int) : Rat) = y.r) := ⟨_, rfl⟩
     rw [← ho]
     have H2 := hide (show o = true ↔ Isw x.x.r by rw [ho, decide_eq_true_iff, HY.out]; rfl)
     replace B := hide (Below.step B.out B.out.size bx)
     clear ho bx
     cases o
     ·go_wp2_with fail
      go_ret
      exact ⟨⟨false, rfl, by constructor <;> intro h; cases h; exact absurd (H2.out.2 (h _ HT.out).2) (by simp)⟩, B.out⟩
     ·go_wp2_with fail
      exact ⟨⟨k + 1, by omega, by go_num, B, hide (take_nextk K.out HX.out ⟨HB.out.2 (by simp), H2.out.1 (by simp)⟩)⟩, by simp [intOf]; omega⟩
  ·obtain rfl : k = n := by omega
   have KK := hide (show ∀ t ∈ tms d, bAt fl t.1 ∧ Isw t.2 by have h := K.out; rwa [List.take_of_length_le (by rw [← HN.out]; exact Nat.le_refl _)] at h)
   clear K
   go_wp2_with fail
   go_ret
   exact ⟨⟨true, rfl, by constructor <;> intro h; exact KK.out; rfl⟩, B.out⟩
theorem run_joinN {α : Type} {enc : α → List Value} {k : Nat} {P : Program} {t e : TypeId} {i : TypeInfo} {z : Value} {by_ : Nat} (ht : P.underlying t = some (.slice e)) (hi : P.info? e = some i) (hz : i.zero = some z)
  (hsize : i.size = k) (hby : i.bytes = by_) (hzs : z.cells.size = k) (h0 : 0 < k) (hk : ∀ x, (enc x).length = k) (h1 : ∀ x, ∀ u ∈ enc x, u.oneCell' = true) (ty : TypeId) (wr : World) (B : Nat) (v : Value) (d : List α) (ad : Addr) (c : Nat) (d2 : List α)
  (hx : Lr enc k wr (.slice (some ad) d2.length c) d2) (hown : Ow e enc k wr B v d) (hlen : d.length + d2.length ≤ 140737488355328) (hb8 : by_ ≤ 1) (hB : B ≤ wr.heap.size) :
  ∃ v' w', (Builtin.append_ #[t, t] ty #[v, .slice (some ad) d2.length c]).run P wr = .ok v' w' ∧ Ow e enc k w' B v' (d ++ d2) ∧
   (wr.grownBy w' v.ownBlock ∧ (v'.ownBlock = v.ownBlock ∨ v'.ownBlock = some wr.heap.size)) := by
 obtain ⟨v', w', hr, h2, h3, -, h5⟩ := run_append_own_at (P := P) wr B t ty e i z k by_ ht hi hz hsize hby hzs h0 v d.length _ hown
  ad d2.length c (flat enc d2) (flat_len hk d2) (by
   intro j u hj
   have hjl := (List.getElem?_eq_some_iff.1 hj).1
   rw [flat_len hk] at hjl
   have hdiv : j / k < d2.length := Nat.div_lt_of_lt_mul (by rw [Nat.mul_comm]; exact hjl)
   have hmod : j % k < k := Nat.mod_lt _ h0
   have hj2 : j = j / k * k + j % k := by rw [Nat.mul_comm]; exact (Nat.div_add_mod j k).symm
   have ex : d2[j / k]? = some (d2[j / k]'hdiv) := List.getElem?_eq_getElem hdiv
   obtain ⟨b, off, c', e1, hlt, hc⟩ := hx.at_ ex
   cases e1
   have e2 := flat_get hk d2 (j / k) _ ex (j % k) hmod
   rw [← hj2, hj] at e2
   have h4 := hc (j % k) u e2.symm
   have e3 : (⟨b, off, none⟩ : Addr).add j = ⟨b, off + j, none⟩ := by
    unfold Addr.add
    by_cases h : j = 0
    ·subst h; simp
    ·simp [h]
   rw [e3]
   rwa [show off + j / k * k + j % k = off + j by omega] at h4) (by
    intro u hu
    obtain ⟨x, _, h⟩ := flat_mem hu
    exact h1 x u h) (by unfold maxLen; omega)
   (by
    have h := Nat.mul_le_mul hlen hb8
    omega) hB
 refine ⟨v', w', hr, ?_, h3, h5⟩
 unfold Ow
 rw [List.length_append, flat_append]
 exact h2
end Go.Proofs.YtfnngcaalpknlaaGreat
