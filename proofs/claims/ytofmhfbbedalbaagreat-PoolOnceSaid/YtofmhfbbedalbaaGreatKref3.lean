
/-
 The document's constraints: Dominates.
-/
import Derived.Test.YtofmhfbbedalbaaGreatKxPoolOnce
import Derived.Test.YtofmhfbbedalbaaGreatBundleQ

namespace Go.Proofs.YtofmhfbbedalbaaGreat
open Go.RowKit Go.Proofs.YtofmhfbbedalbaaGreat.Num
set_option linter.unusedVariables false
set_option linter.unusedSimpArgs false
set_option maxRecDepth 100000
set_option maxHeartbeats 16000000 in
theorem rdom_f {w : World} {a b : Kx} {L M : Nat} (ha : Kv w a L) (hb : Kv w b M) (hn : a.d.length ≤ 1000) (hm : b.d.length ≤ 1000) (h1 : 1 ≤ L) (hL : L ≤ 100000) (h2 : 1 ≤ M) (hM : M ≤ 100000) :
  Calls Tryz.prog 19 #[kx a, kx b] w fun e w' => BRet (Domi a.s (tms a.d) a.x.r b.s (tms b.d) b.x.r) e ∧ Below w.heap.size w w' := by
 have b2 : Below w.heap.size w ((w.alloc (kbox a)).alloc (kbox b)) := ((Below.refl _ _).alloc (Nat.le_refl _) _).alloc (by simp) _
 have P := hide (show Kq ((w.alloc (kbox a)).alloc (kbox b)) w.heap.size a from (Kq.new w a).step ((Below.refl _ _).alloc (Nat.le_refl _) (kbox b)))
 have P2 := hide (show Kq ((w.alloc (kbox a)).alloc (kbox b)) (w.heap.size + 1) b by
  have h := Kq.new (w.alloc (kbox a)) b
  have h2 : Kq ((w.alloc (kbox a)).alloc (kbox b)) (w.heap.size + 1) b := by simpa using h
  exact h2)
 have HA := hide (ha.step b2)
 have HB := hide (hb.step b2)
 have B := hide b2
 have HN := hide hn
 have HM := hide hm
 clear ha hb b2 hn hm
 obtain ⟨p0, p1, p2, p3, p4⟩ := P.out.all
 obtain ⟨q0, q1, q2, q3, q4⟩ := P2.out.all
 go_enter Tryz.func19, Tryz.ntmps19
 go_wp2_with fail
 refine (sense_c a.s _).mono ?_
 rintro e w1 ⟨⟨o, rfl, ho⟩, rfl⟩
 have H1 := hide ho
 clear ho
 cases o
 ·go_wp2_with fail
  go_ret
  exact ⟨⟨false, rfl, by constructor <;> intro h; cases h; exact absurd (H1.out.2 h.1) (by simp)⟩, B.out⟩
 go_wp2_with fail
 refine (sense_c b.s _).mono ?_
 rintro e w1 ⟨⟨o, rfl, ho⟩, rfl⟩
 have H2 := hide ho
 clear ho
 cases o
 ·go_wp2_with fail
  go_ret
  exact ⟨⟨false, rfl, by constructor <;> intro h; cases h; exact absurd (H2.out.2 h.2.1) (by simp)⟩, B.out⟩
 have S1 := hide (H1.out.1 (by simp))
 have S2 := hide (H2.out.1 (by simp))
 clear H1 H2
 go_wp2_with fail
 clear p0 p1 p2 p3 p4 q0 q1 q2 q3 q4
 generalize hW0 : ((w.alloc (kbox a)).alloc (kbox b)) = W0 at *
 have bx := (Below.refl W0.heap.size W0).drew
 replace P := hide (P.out.step bx)
 replace P2 := hide (P2.out.step bx)
 replace HA := hide (HA.out.step bx)
 replace HB := hide (HB.out.step bx)
 replace B := hide (Below.step B.out B.out.size bx)
 clear bx
 refine wp_region_held_drew (S := fun W => (W.cell? ⟨w.heap.size, 0, none⟩ = some (.int .i64 a.s) ∧ W.cell? ⟨w.heap.size, 1, none⟩ = some (sv a.v) ∧ W.cell? ⟨w.heap.size, 2, none⟩ = some (.bool a.x.s) ∧ W.cell? ⟨w.heap.size, 3, none⟩ = some (sv a.x.u) ∧ W.cell? ⟨w.heap.size, 4, none⟩ = some (sv a.x.t)) ∧ W.cell? ⟨w.heap.size + 1, 0, none⟩ = some (.int .i64 b.s) ∧ W.cell? ⟨w.heap.size + 1, 1, none⟩ = some (sv b.v) ∧ W.cell? ⟨w.heap.size + 1, 2, none⟩ = some (.bool b.x.s) ∧ W.cell? ⟨w.heap.size + 1, 3, none⟩ = some (sv b.x.u) ∧ W.cell? ⟨w.heap.size + 1, 4, none⟩ = some (sv b.x.t)) (by kernel_rfl) ?_ (fun hHeld => ?_)
 ·try dsimp only
  exact ⟨P.out.all, P2.out.all⟩
 refine tk 0 (v := ?_) hHeld ?_ ?_; rotate_left; (focus (intro w hSw; (try dsimp only at hSw); go_simp; (try with_reducible rfl)))
 try simp only [Act.put, s1, s2, s3, s4, s5, s6]
 refine r1 1 (fun K hK => ?_)
 go_simp
 go_at_call 49; refine Calls.mono (rfalse_f HA.out HN.out h1 hL) ?_; rintro e wx ⟨⟨o, rfl, ho⟩, bx⟩; have H1 := hide ho; clear ho; replace P := hide (P.out.step bx); replace P2 := hide (P2.out.step bx); replace HA := hide (HA.out.step bx); replace HB := hide (HB.out.step bx); replace B := hide (Below.step B.out B.out.size bx); clear bx
 try dsimp only
 refine hK.out _ _ ?_ (fun hHeld => ?_); (focus ((try dsimp only); exact ⟨P.out.all, P2.out.all⟩)); clear hK K
 try simp only [Act.put, s1, s2, s3, s4, s5, s6]
 cases o
 case true =>
  refine tk 2 (v := ?_) hHeld ?_ ?_; rotate_left; (focus (intro w hSw; (try dsimp only at hSw); go_simp; (try with_reducible rfl)))
  try simp only [Act.put, s1, s2, s3, s4, s5, s6]
  refine sh 3 hHeld ?_
  try simp only [Act.put, s1, s2, s3, s4, s5, s6]
  refine r1 4 (fun K hK => ?_)
  go_simp
  refine hK.out _ _ ?_ (fun hHeld => ?_); (focus ((try dsimp only); exact ⟨P.out.all, P2.out.all⟩)); clear hK K
  try simp only [Act.put, s1, s2, s3, s4, s5, s6]
  refine sh 5 hHeld ?_
  try simp only [Act.put, s1, s2, s3, s4, s5, s6]
  refine sh 6 hHeld ?_
  try simp only [Act.put, s1, s2, s3, s4, s5, s6]
  refine r1 7 (fun K hK => ?_)
  go_simp
  refine hK.out _ _ ?_ (fun hHeld => ?_); (focus ((try dsimp only); exact ⟨P.out.all, P2.out.all⟩)); clear hK K
  try simp only [Act.put, s1, s2, s3, s4, s5, s6]
  refine r1 8 (fun K hK => ?_)
  go_simp
  refine hK.out _ _ ?_ (fun hHeld => ?_); (focus ((try dsimp only); exact ⟨P.out.all, P2.out.all⟩)); clear hK K
  try simp only [Act.put, s1, s2, s3, s4, s5, s6]
  refine sh 9 hHeld ?_
  try simp only [Act.put, s1, s2, s3, s4, s5, s6]
  refine tk 10 (v := ?_) hHeld ?_ ?_; rotate_left; (focus (intro w hSw; (try dsimp only at hSw); go_simp; (try with_reducible rfl)))
  try simp only [Act.put, s1, s2, s3, s4, s5, s6]
  refine wpAnyH_done (by kernel_rfl) ?_ _
  go_wp2_with fail
  go_ret
  exact ⟨⟨true, rfl, by constructor <;> intro h; exact ⟨S1.out, S2.out, .inl (H1.out.1 (by simp))⟩; rfl⟩, B.out⟩
 have N1 := hide (show ¬ Fls a.s (tms a.d) a.x.r from fun h => absurd (H1.out.2 h) (by simp))
 clear H1
 refine tk 2 (v := ?_) hHeld ?_ ?_; rotate_left; (focus (intro w hSw; (try dsimp only at hSw); go_simp; (try with_reducible rfl)))
 try simp only [Act.put, s1, s2, s3, s4, s5, s6]
 refine tk 3 (v := ?_) hHeld ?_ ?_; rotate_left; (focus (intro w hSw; (try dsimp only at hSw); go_simp; (try with_reducible rfl)))
 try simp only [Act.put, s1, s2, s3, s4, s5, s6]
 refine r1 4 (fun K hK => ?_)
 go_simp
 go_at_call 18; refine Calls.mono (bare_f (k := b) (L := M) HB.out HM.out h2 hM) ?_; rintro e wx ⟨⟨o, rfl, ho⟩, bx⟩; have H1 := hide ho; clear ho; replace P := hide (P.out.step bx); replace P2 := hide (P2.out.step bx); replace HA := hide (HA.out.step bx); replace HB := hide (HB.out.step bx); replace B := hide (Below.step B.out B.out.size bx); clear bx
 try dsimp only
 refine hK.out _ _ ?_ (fun hHeld => ?_); (focus ((try dsimp only); exact ⟨P.out.all, P2.out.all⟩)); clear hK K
 try simp only [Act.put, s1, s2, s3, s4, s5, s6]
 cases o
 case false =>
  have N2 := hide (show ¬ (Bare (tms b.d) ∧ Kpt b.s 0 b.x.r) from fun h => absurd (H1.out.2 h.1) (by simp))
  clear H1
  refine tk 5 (v := ?_) hHeld ?_ ?_; rotate_left; (focus (intro w hSw; (try dsimp only at hSw); go_simp; (try with_reducible rfl)))
  try simp only [Act.put, s1, s2, s3, s4, s5, s6]
  refine sh 6 hHeld ?_
  try simp only [Act.put, s1, s2, s3, s4, s5, s6]
  refine r1 7 (fun K hK => ?_)
  go_simp
  refine hK.out _ _ ?_ (fun hHeld => ?_); (focus ((try dsimp only); exact ⟨P.out.all, P2.out.all⟩)); clear hK K
  try simp only [Act.put, s1, s2, s3, s4, s5, s6]
  refine r1 8 (fun K hK => ?_)
  go_simp
  refine hK.out _ _ ?_ (fun hHeld => ?_); (focus ((try dsimp only); exact ⟨P.out.all, P2.out.all⟩)); clear hK K
  try simp only [Act.put, s1, s2, s3, s4, s5, s6]
  refine tk 9 (v := ?_) hHeld ?_ ?_; rotate_left; (focus (intro w hSw; (try dsimp only at hSw); go_simp; (try with_reducible rfl)))
  try simp only [Act.put, s1, s2, s3, s4, s5, s6]
  refine tk 10 (v := ?_) hHeld ?_ ?_; rotate_left; (focus (intro w hSw; (try dsimp only at hSw); go_simp; (try with_reducible rfl)))
  try simp only [Act.put, s1, s2, s3, s4, s5, s6]
  refine wpAnyH_done (by kernel_rfl) ?_ _
  obtain ⟨p0, p1, p2, p3, p4⟩ := P.out.all
  obtain ⟨q0, q1, q2, q3, q4⟩ := P2.out.all
  go_wp2_with fail
  refine (alike_f HA.out HB.out HN.out HM.out h1 hL h2 hM).mono ?_
  rintro e w5 ⟨⟨o, rfl, ho⟩, bx⟩
  have H3 := hide ho
  clear p0 p1 p2 p3 p4 q0 q1 q2 q3 q4 ho
  replace P := hide (P.out.step bx)
  replace P2 := hide (P2.out.step bx)
  replace HA := hide (HA.out.step bx)
  replace HB := hide (HB.out.step bx)
  replace B := hide (Below.step B.out B.out.size bx)
  clear bx
  obtain ⟨p0, p1, p2, p3, p4⟩ := P.out.all
  obtain ⟨q0, q1, q2, q3, q4⟩ := P2.out.all
  cases o
  case false =>
   go_wp2_with fail
   go_ret
   exact ⟨⟨false, rfl, by
    constructor
    ·intro h; cases h
    ·rintro ⟨-, -, h | h | h⟩
     ·exact absurd h N1.out
     ·exact absurd h N2.out
     ·exact absurd (H3.out.2 h.2.2) (by simp)⟩, B.out⟩
  have A3 := hide (H3.out.1 (by simp))
  clear H3
  by_cases es : a.s = b.s
  case pos =>
   have d1 : (a.s != b.s) = false := by rw [es]; exact bne_self_eq_false _
   have S3 := hide (show a.s = b.s ∨ a.s = 3 from .inl es)
   clear es
   go_wp2_with fail
   clear p0 p1 p2 p3 p4 q0 q1 q2 q3 q4
   have bx := (Below.refl w5.heap.size w5).drew
   replace P := hide (P.out.step bx)
   replace P2 := hide (P2.out.step bx)
   replace HA := hide (HA.out.step bx)
   replace HB := hide (HB.out.step bx)
   replace B := hide (Below.step B.out B.out.size bx)
   clear bx
   refine wp_region_held_drew (S := fun W => (W.cell? ⟨w.heap.size, 0, none⟩ = some (.int .i64 a.s) ∧ W.cell? ⟨w.heap.size, 1, none⟩ = some (sv a.v) ∧ W.cell? ⟨w.heap.size, 2, none⟩ = some (.bool a.x.s) ∧ W.cell? ⟨w.heap.size, 3, none⟩ = some (sv a.x.u) ∧ W.cell? ⟨w.heap.size, 4, none⟩ = some (sv a.x.t)) ∧ W.cell? ⟨w.heap.size + 1, 0, none⟩ = some (.int .i64 b.s) ∧ W.cell? ⟨w.heap.size + 1, 1, none⟩ = some (sv b.v) ∧ W.cell? ⟨w.heap.size + 1, 2, none⟩ = some (.bool b.x.s) ∧ W.cell? ⟨w.heap.size + 1, 3, none⟩ = some (sv b.x.u) ∧ W.cell? ⟨w.heap.size + 1, 4, none⟩ = some (sv b.x.t)) (by kernel_rfl) ?_ (fun hHeld => ?_)
   ·try dsimp only
    exact ⟨P.out.all, P2.out.all⟩
   refine tk 0 (v := ?_) hHeld ?_ ?_; rotate_left; (focus (intro w hSw; (try dsimp only at hSw); go_simp; (try with_reducible rfl)))
   try simp only [Act.put, s1, s2, s3, s4, s5, s6]
   refine tk 1 (v := ?_) hHeld ?_ ?_; rotate_left; (focus (intro w hSw; (try dsimp only at hSw); go_simp; (try with_reducible rfl)))
   try simp only [Act.put, s1, s2, s3, s4, s5, s6]
   refine tk 2 (v := ?_) hHeld ?_ ?_; rotate_left; (focus (intro w hSw; (try dsimp only at hSw); go_simp; (try with_reducible rfl)))
   try simp only [Act.put, s1, s2, s3, s4, s5, s6]
   refine r1 3 (fun K hK => ?_)
   go_simp
   go_at_call 39; refine Calls.mono (rof_f (L := L) HA.out.2 h1 (by omega)) ?_; rintro e wx ⟨y, rfl, hy, ry, bx⟩; have HY := hide hy; have RY := hide ry; clear hy ry; replace P := hide (P.out.step bx); replace P2 := hide (P2.out.step bx); replace HA := hide (HA.out.step bx); replace HB := hide (HB.out.step bx); replace B := hide (Below.step B.out B.out.size bx); clear bx
   try dsimp only
   refine hK.out _ _ ?_ (fun hHeld => ?_); (focus ((try dsimp only); exact ⟨P.out.all, P2.out.all⟩)); clear hK K
   try simp only [Act.put, s1, s2, s3, s4, s5, s6]
   refine r1 4 (fun K hK => ?_)
   go_simp
   go_at_call 44; refine Calls.mono (kept_f (k := b) (q := y) (L := M) HB.out.2 RY.out h2 (by omega) (by omega)) ?_; rintro e wx ⟨⟨o, rfl, ho⟩, bx⟩; have H4 := hide (show o = true ↔ Kpt b.s a.x.r b.x.r by rw [ho, HY.out]); clear ho; replace P := hide (P.out.step bx); replace P2 := hide (P2.out.step bx); replace HA := hide (HA.out.step bx); replace HB := hide (HB.out.step bx); replace B := hide (Below.step B.out B.out.size bx); clear bx
   try dsimp only
   refine hK.out _ _ ?_ (fun hHeld => ?_); (focus ((try dsimp only); exact ⟨P.out.all, P2.out.all⟩)); clear hK K
   try simp only [Act.put, s1, s2, s3, s4, s5, s6]
   refine tk 5 (v := ?_) hHeld ?_ ?_; rotate_left; (focus (intro w hSw; (try dsimp only at hSw); go_simp; (try with_reducible rfl)))
   try simp only [Act.put, s1, s2, s3, s4, s5, s6]
   refine wpAnyH_done (by kernel_rfl) ?_ _
   go_wp2_with fail
   go_ret
   exact ⟨⟨_, rfl, by
    rw [H4.out]
    constructor
    ·intro h; exact ⟨S1.out, S2.out, .inr (.inr ⟨S3.out, h, A3.out⟩)⟩
    ·rintro ⟨-, -, h | h | h⟩
     ·exact absurd h N1.out
     ·exact absurd h N2.out
     ·exact h.2.1⟩, B.out⟩
  have d1 : (a.s != b.s) = true := bne_iff_ne.2 es
  have NS := hide es
  clear es
  by_cases e3 : a.s = 3
  case neg =>
   have d3 : (a.s != 3) = true := bne_iff_ne.2 e3
   have N3 := hide e3
   clear e3
   go_wp2_with fail
   go_ret
   exact ⟨⟨false, rfl, by
    constructor
    ·intro h; cases h
    ·rintro ⟨-, -, h | h | h⟩
     ·exact absurd h N1.out
     ·exact absurd h N2.out
     ·rcases h.1 with h | h
      ·exact absurd h NS.out
      ·exact absurd h N3.out⟩, B.out⟩
  have d3 : (a.s != 3) = false := by rw [e3]; rfl
  have S3 := hide (show a.s = b.s ∨ a.s = 3 from .inr e3)
  clear e3
  go_wp2_with fail
  clear p0 p1 p2 p3 p4 q0 q1 q2 q3 q4
  have bx := (Below.refl w5.heap.size w5).drew
  replace P := hide (P.out.step bx)
  replace P2 := hide (P2.out.step bx)
  replace HA := hide (HA.out.step bx)
  replace HB := hide (HB.out.step bx)
  replace B := hide (Below.step B.out B.out.size bx)
  clear bx
  refine wp_region_held_drew (S := fun W => (W.cell? ⟨w.heap.size, 0, none⟩ = some (.int .i64 a.s) ∧ W.cell? ⟨w.heap.size, 1, none⟩ = some (sv a.v) ∧ W.cell? ⟨w.heap.size, 2, none⟩ = some (.bool a.x.s) ∧ W.cell? ⟨w.heap.size, 3, none⟩ = some (sv a.x.u) ∧ W.cell? ⟨w.heap.size, 4, none⟩ = some (sv a.x.t)) ∧ W.cell? ⟨w.heap.size + 1, 0, none⟩ = some (.int .i64 b.s) ∧ W.cell? ⟨w.heap.size + 1, 1, none⟩ = some (sv b.v) ∧ W.cell? ⟨w.heap.size + 1, 2, none⟩ = some (.bool b.x.s) ∧ W.cell? ⟨w.heap.size + 1, 3, none⟩ = some (sv b.x.u) ∧ W.cell? ⟨w.heap.size + 1, 4, none⟩ = some (sv b.x.t)) (by kernel_rfl) ?_ (fun hHeld => ?_)
  ·try dsimp only
   exact ⟨P.out.all, P2.out.all⟩
  refine tk 0 (v := ?_) hHeld ?_ ?_; rotate_left; (focus (intro w hSw; (try dsimp only at hSw); go_simp; (try with_reducible rfl)))
  try simp only [Act.put, s1, s2, s3, s4, s5, s6]
  refine tk 1 (v := ?_) hHeld ?_ ?_; rotate_left; (focus (intro w hSw; (try dsimp only at hSw); go_simp; (try with_reducible rfl)))
  try simp only [Act.put, s1, s2, s3, s4, s5, s6]
  refine tk 2 (v := ?_) hHeld ?_ ?_; rotate_left; (focus (intro w hSw; (try dsimp only at hSw); go_simp; (try with_reducible rfl)))
  try simp only [Act.put, s1, s2, s3, s4, s5, s6]
  refine r1 3 (fun K hK => ?_)
  go_simp
  go_at_call 39; refine Calls.mono (rof_f (L := L) HA.out.2 h1 (by omega)) ?_; rintro e wx ⟨y, rfl, hy, ry, bx⟩; have HY := hide hy; have RY := hide ry; clear hy ry; replace P := hide (P.out.step bx); replace P2 := hide (P2.out.step bx); replace HA := hide (HA.out.step bx); replace HB := hide (HB.out.step bx); replace B := hide (Below.step B.out B.out.size bx); clear bx
  try dsimp only
  refine hK.out _ _ ?_ (fun hHeld => ?_); (focus ((try dsimp only); exact ⟨P.out.all, P2.out.all⟩)); clear hK K
  try simp only [Act.put, s1, s2, s3, s4, s5, s6]
  refine r1 4 (fun K hK => ?_)
  go_simp
  go_at_call 44; refine Calls.mono (kept_f (k := b) (q := y) (L := M) HB.out.2 RY.out h2 (by omega) (by omega)) ?_; rintro e wx ⟨⟨o, rfl, ho⟩, bx⟩; have H4 := hide (show o = true ↔ Kpt b.s a.x.r b.x.r by rw [ho, HY.out]); clear ho; replace P := hide (P.out.step bx); replace P2 := hide (P2.out.step bx); replace HA := hide (HA.out.step bx); replace HB := hide (HB.out.step bx); replace B := hide (Below.step B.out B.out.size bx); clear bx
  try dsimp only
  refine hK.out _ _ ?_ (fun hHeld => ?_); (focus ((try dsimp only); exact ⟨P.out.all, P2.out.all⟩)); clear hK K
  try simp only [Act.put, s1, s2, s3, s4, s5, s6]
  refine tk 5 (v := ?_) hHeld ?_ ?_; rotate_left; (focus (intro w hSw; (try dsimp only at hSw); go_simp; (try with_reducible rfl)))
  try simp only [Act.put, s1, s2, s3, s4, s5, s6]
  refine wpAnyH_done (by kernel_rfl) ?_ _
  go_wp2_with fail
  go_ret
  exact ⟨⟨_, rfl, by
   rw [H4.out]
   constructor
   ·intro h; exact ⟨S1.out, S2.out, .inr (.inr ⟨S3.out, h, A3.out⟩)⟩
   ·rintro ⟨-, -, h | h | h⟩
    ·exact absurd h N1.out
    ·exact absurd h N2.out
    ·exact h.2.1⟩, B.out⟩
 have E2 := hide (H1.out.1 (by simp))
 clear H1
 refine tk 5 (v := ?_) hHeld ?_ ?_; rotate_left; (focus (intro w hSw; (try dsimp only at hSw); go_simp; (try with_reducible rfl)))
 try simp only [Act.put, s1, s2, s3, s4, s5, s6]
 refine tk 6 (v := ?_) hHeld ?_ ?_; rotate_left; (focus (intro w hSw; (try dsimp only at hSw); go_simp; (try with_reducible rfl)))
 try simp only [Act.put, s1, s2, s3, s4, s5, s6]
 refine r1 7 (fun K hK => ?_)
 go_simp
 go_at_call 50; refine Calls.mono (rqsmall_f _ 0 (by omega) (by omega)) ?_; rintro e wx ⟨y, rfl, hy, ry, bx⟩; have HY := hide (show y.r = 0 from hy); have RY := hide ry; clear hy ry; replace P := hide (P.out.step bx); replace P2 := hide (P2.out.step bx); replace HA := hide (HA.out.step bx); replace HB := hide (HB.out.step bx); replace B := hide (Below.step B.out B.out.size bx); clear bx
 try dsimp only
 refine hK.out _ _ ?_ (fun hHeld => ?_); (focus ((try dsimp only); exact ⟨P.out.all, P2.out.all⟩)); clear hK K
 try simp only [Act.put, s1, s2, s3, s4, s5, s6]
 refine r1 8 (fun K hK => ?_)
 go_simp
 go_at_call 44; refine Calls.mono (kept_f (k := b) (q := y) (L := M) HB.out.2 RY.out h2 (by omega) (by omega)) ?_; rintro e wx ⟨⟨o, rfl, ho⟩, bx⟩; have H1 := hide (show o = true ↔ Kpt b.s 0 b.x.r by rw [ho, HY.out]); clear ho; replace P := hide (P.out.step bx); replace P2 := hide (P2.out.step bx); replace HA := hide (HA.out.step bx); replace HB := hide (HB.out.step bx); replace B := hide (Below.step B.out B.out.size bx); clear bx
 try dsimp only
 refine hK.out _ _ ?_ (fun hHeld => ?_); (focus ((try dsimp only); exact ⟨P.out.all, P2.out.all⟩)); clear hK K
 try simp only [Act.put, s1, s2, s3, s4, s5, s6]
 cases o
 case true =>
  refine tk 9 (v := ?_) hHeld ?_ ?_; rotate_left; (focus (intro w hSw; (try dsimp only at hSw); go_simp; (try with_reducible rfl)))
  try simp only [Act.put, s1, s2, s3, s4, s5, s6]
  refine tk 10 (v := ?_) hHeld ?_ ?_; rotate_left; (focus (intro w hSw; (try dsimp only at hSw); go_simp; (try with_reducible rfl)))
  try simp only [Act.put, s1, s2, s3, s4, s5, s6]
  refine wpAnyH_done (by kernel_rfl) ?_ _
  go_wp2_with fail
  go_ret
  exact ⟨⟨true, rfl, by constructor <;> intro h; exact ⟨S1.out, S2.out, .inr (.inl ⟨E2.out, H1.out.1 (by simp)⟩)⟩; rfl⟩, B.out⟩
 have N2 := hide (show ¬ (Bare (tms b.d) ∧ Kpt b.s 0 b.x.r) from fun h => absurd (H1.out.2 h.2) (by simp))
 clear H1 E2 HY RY
 refine tk 9 (v := ?_) hHeld ?_ ?_; rotate_left; (focus (intro w hSw; (try dsimp only at hSw); go_simp; (try with_reducible rfl)))
 try simp only [Act.put, s1, s2, s3, s4, s5, s6]
 refine tk 10 (v := ?_) hHeld ?_ ?_; rotate_left; (focus (intro w hSw; (try dsimp only at hSw); go_simp; (try with_reducible rfl)))
 try simp only [Act.put, s1, s2, s3, s4, s5, s6]
 refine wpAnyH_done (by kernel_rfl) ?_ _
 obtain ⟨p0, p1, p2, p3, p4⟩ := P.out.all
 obtain ⟨q0, q1, q2, q3, q4⟩ := P2.out.all
 go_wp2_with fail
 refine (alike_f HA.out HB.out HN.out HM.out h1 hL h2 hM).mono ?_
 rintro e w5 ⟨⟨o, rfl, ho⟩, bx⟩
 have H3 := hide ho
 clear p0 p1 p2 p3 p4 q0 q1 q2 q3 q4 ho
 replace P := hide (P.out.step bx)
 replace P2 := hide (P2.out.step bx)
 replace HA := hide (HA.out.step bx)
 replace HB := hide (HB.out.step bx)
 replace B := hide (Below.step B.out B.out.size bx)
 clear bx
 obtain ⟨p0, p1, p2, p3, p4⟩ := P.out.all
 obtain ⟨q0, q1, q2, q3, q4⟩ := P2.out.all
 cases o
 case false =>
  go_wp2_with fail
  go_ret
  exact ⟨⟨false, rfl, by
   constructor
   ·intro h; cases h
   ·rintro ⟨-, -, h | h | h⟩
    ·exact absurd h N1.out
    ·exact absurd h N2.out
    ·exact absurd (H3.out.2 h.2.2) (by simp)⟩, B.out⟩
 have A3 := hide (H3.out.1 (by simp))
 clear H3
 by_cases es : a.s = b.s
 case pos =>
  have d1 : (a.s != b.s) = false := by rw [es]; exact bne_self_eq_false _
  have S3 := hide (show a.s = b.s ∨ a.s = 3 from .inl es)
  clear es
  go_wp2_with fail
  clear p0 p1 p2 p3 p4 q0 q1 q2 q3 q4
  have bx := (Below.refl w5.heap.size w5).drew
  replace P := hide (P.out.step bx)
  replace P2 := hide (P2.out.step bx)
  replace HA := hide (HA.out.step bx)
  replace HB := hide (HB.out.step bx)
  replace B := hide (Below.step B.out B.out.size bx)
  clear bx
  refine wp_region_held_drew (S := fun W => (W.cell? ⟨w.heap.size, 0, none⟩ = some (.int .i64 a.s) ∧ W.cell? ⟨w.heap.size, 1, none⟩ = some (sv a.v) ∧ W.cell? ⟨w.heap.size, 2, none⟩ = some (.bool a.x.s) ∧ W.cell? ⟨w.heap.size, 3, none⟩ = some (sv a.x.u) ∧ W.cell? ⟨w.heap.size, 4, none⟩ = some (sv a.x.t)) ∧ W.cell? ⟨w.heap.size + 1, 0, none⟩ = some (.int .i64 b.s) ∧ W.cell? ⟨w.heap.size + 1, 1, none⟩ = some (sv b.v) ∧ W.cell? ⟨w.heap.size + 1, 2, none⟩ = some (.bool b.x.s) ∧ W.cell? ⟨w.heap.size + 1, 3, none⟩ = some (sv b.x.u) ∧ W.cell? ⟨w.heap.size + 1, 4, none⟩ = some (sv b.x.t)) (by kernel_rfl) ?_ (fun hHeld => ?_)
  ·try dsimp only
   exact ⟨P.out.all, P2.out.all⟩
  refine tk 0 (v := ?_) hHeld ?_ ?_; rotate_left; (focus (intro w hSw; (try dsimp only at hSw); go_simp; (try with_reducible rfl)))
  try simp only [Act.put, s1, s2, s3, s4, s5, s6]
  refine tk 1 (v := ?_) hHeld ?_ ?_; rotate_left; (focus (intro w hSw; (try dsimp only at hSw); go_simp; (try with_reducible rfl)))
  try simp only [Act.put, s1, s2, s3, s4, s5, s6]
  refine tk 2 (v := ?_) hHeld ?_ ?_; rotate_left; (focus (intro w hSw; (try dsimp only at hSw); go_simp; (try with_reducible rfl)))
  try simp only [Act.put, s1, s2, s3, s4, s5, s6]
  refine r1 3 (fun K hK => ?_)
  go_simp
  go_at_call 39; refine Calls.mono (rof_f (L := L) HA.out.2 h1 (by omega)) ?_; rintro e wx ⟨y, rfl, hy, ry, bx⟩; have HY := hide hy; have RY := hide ry; clear hy ry; replace P := hide (P.out.step bx); replace P2 := hide (P2.out.step bx); replace HA := hide (HA.out.step bx); replace HB := hide (HB.out.step bx); replace B := hide (Below.step B.out B.out.size bx); clear bx
  try dsimp only
  refine hK.out _ _ ?_ (fun hHeld => ?_); (focus ((try dsimp only); exact ⟨P.out.all, P2.out.all⟩)); clear hK K
  try simp only [Act.put, s1, s2, s3, s4, s5, s6]
  refine r1 4 (fun K hK => ?_)
  go_simp
  go_at_call 44; refine Calls.mono (kept_f (k := b) (q := y) (L := M) HB.out.2 RY.out h2 (by omega) (by omega)) ?_; rintro e wx ⟨⟨o, rfl, ho⟩, bx⟩; have H4 := hide (show o = true ↔ Kpt b.s a.x.r b.x.r by rw [ho, HY.out]); clear ho; replace P := hide (P.out.step bx); replace P2 := hide (P2.out.step bx); replace HA := hide (HA.out.step bx); replace HB := hide (HB.out.step bx); replace B := hide (Below.step B.out B.out.size bx); clear bx
  try dsimp only
  refine hK.out _ _ ?_ (fun hHeld => ?_); (focus ((try dsimp only); exact ⟨P.out.all, P2.out.all⟩)); clear hK K
  try simp only [Act.put, s1, s2, s3, s4, s5, s6]
  refine tk 5 (v := ?_) hHeld ?_ ?_; rotate_left; (focus (intro w hSw; (try dsimp only at hSw); go_simp; (try with_reducible rfl)))
  try simp only [Act.put, s1, s2, s3, s4, s5, s6]
  refine wpAnyH_done (by kernel_rfl) ?_ _
  go_wp2_with fail
  go_ret
  exact ⟨⟨_, rfl, by
   rw [H4.out]
   constructor
   ·intro h; exact ⟨S1.out, S2.out, .inr (.inr ⟨S3.out, h, A3.out⟩)⟩
   ·rintro ⟨-, -, h | h | h⟩
    ·exact absurd h N1.out
    ·exact absurd h N2.out
    ·exact h.2.1⟩, B.out⟩
 have d1 : (a.s != b.s) = true := bne_iff_ne.2 es
 have NS := hide es
 clear es
 by_cases e3 : a.s = 3
 case neg =>
  have d3 : (a.s != 3) = true := bne_iff_ne.2 e3
  have N3 := hide e3
  clear e3
  go_wp2_with fail
  go_ret
  exact ⟨⟨false, rfl, by
   constructor
   ·intro h; cases h
   ·rintro ⟨-, -, h | h | h⟩
    ·exact absurd h N1.out
    ·exact absurd h N2.out
    ·rcases h.1 with h | h
     ·exact absurd h NS.out
     ·exact absurd h N3.out⟩, B.out⟩
 have d3 : (a.s != 3) = false := by rw [e3]; rfl
 have S3 := hide (show a.s = b.s ∨ a.s = 3 from .inr e3)
 clear e3
 go_wp2_with fail
 clear p0 p1 p2 p3 p4 q0 q1 q2 q3 q4
 have bx := (Below.refl w5.heap.size w5).drew
 replace P := hide (P.out.step bx)
 replace P2 := hide (P2.out.step bx)
 replace HA := hide (HA.out.step bx)
 replace HB := hide (HB.out.step bx)
 replace B := hide (Below.step B.out B.out.size bx)
 clear bx
 refine wp_region_held_drew (S := fun W => (W.cell? ⟨w.heap.size, 0, none⟩ = some (.int .i64 a.s) ∧ W.cell? ⟨w.heap.size, 1, none⟩ = some (sv a.v) ∧ W.cell? ⟨w.heap.size, 2, none⟩ = some (.bool a.x.s) ∧ W.cell? ⟨w.heap.size, 3, none⟩ = some (sv a.x.u) ∧ W.cell? ⟨w.heap.size, 4, none⟩ = some (sv a.x.t)) ∧ W.cell? ⟨w.heap.size + 1, 0, none⟩ = some (.int .i64 b.s) ∧ W.cell? ⟨w.heap.size + 1, 1, none⟩ = some (sv b.v) ∧ W.cell? ⟨w.heap.size + 1, 2, none⟩ = some (.bool b.x.s) ∧ W.cell? ⟨w.heap.size + 1, 3, none⟩ = some (sv b.x.u) ∧ W.cell? ⟨w.heap.size + 1, 4, none⟩ = some (sv b.x.t)) (by kernel_rfl) ?_ (fun hHeld => ?_)
 ·try dsimp only
  exact ⟨P.out.all, P2.out.all⟩
 refine tk 0 (v := ?_) hHeld ?_ ?_; rotate_left; (focus (intro w hSw; (try dsimp only at hSw); go_simp; (try with_reducible rfl)))
 try simp only [Act.put, s1, s2, s3, s4, s5, s6]
 refine tk 1 (v := ?_) hHeld ?_ ?_; rotate_left; (focus (intro w hSw; (try dsimp only at hSw); go_simp; (try with_reducible rfl)))
 try simp only [Act.put, s1, s2, s3, s4, s5, s6]
 refine tk 2 (v := ?_) hHeld ?_ ?_; rotate_left; (focus (intro w hSw; (try dsimp only at hSw); go_simp; (try with_reducible rfl)))
 try simp only [Act.put, s1, s2, s3, s4, s5, s6]
 refine r1 3 (fun K hK => ?_)
 go_simp
 go_at_call 39; refine Calls.mono (rof_f (L := L) HA.out.2 h1 (by omega)) ?_; rintro e wx ⟨y, rfl, hy, ry, bx⟩; have HY := hide hy; have RY := hide ry; clear hy ry; replace P := hide (P.out.step bx); replace P2 := hide (P2.out.step bx); replace HA := hide (HA.out.step bx); replace HB := hide (HB.out.step bx); replace B := hide (Below.step B.out B.out.size bx); clear bx
 try dsimp only
 refine hK.out _ _ ?_ (fun hHeld => ?_); (focus ((try dsimp only); exact ⟨P.out.all, P2.out.all⟩)); clear hK K
 try simp only [Act.put, s1, s2, s3, s4, s5, s6]
 refine r1 4 (fun K hK => ?_)
 go_simp
 go_at_call 44; refine Calls.mono (kept_f (k := b) (q := y) (L := M) HB.out.2 RY.out h2 (by omega) (by omega)) ?_; rintro e wx ⟨⟨o, rfl, ho⟩, bx⟩; have H4 := hide (show o = true ↔ Kpt b.s a.x.r b.x.r by rw [ho, HY.out]); clear ho; replace P := hide (P.out.step bx); replace P2 := hide (P2.out.step bx); replace HA := hide (HA.out.step bx); replace HB := hide (HB.out.step bx); replace B := hide (Below.step B.out B.out.size bx); clear bx
 try dsimp only
 refine hK.out _ _ ?_ (fun hHeld => ?_); (focus ((try dsimp only); exact ⟨P.out.all, P2.out.all⟩)); clear hK K
 try simp only [Act.put, s1, s2, s3, s4, s5, s6]
 refine tk 5 (v := ?_) hHeld ?_ ?_; rotate_left; (focus (intro w hSw; (try dsimp only at hSw); go_simp; (try with_reducible rfl)))
 try simp only [Act.put, s1, s2, s3, s4, s5, s6]
 refine wpAnyH_done (by kernel_rfl) ?_ _
 go_wp2_with fail
 go_ret
 exact ⟨⟨_, rfl, by
  rw [H4.out]
  constructor
  ·intro h; exact ⟨S1.out, S2.out, .inr (.inr ⟨S3.out, h, A3.out⟩)⟩
  ·rintro ⟨-, -, h | h | h⟩
   ·exact absurd h N1.out
   ·exact absurd h N2.out
   ·exact h.2.1⟩, B.out⟩
end Go.Proofs.YtofmhfbbedalbaaGreat
