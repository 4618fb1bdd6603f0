/-
  What this law wants besides.
-/
import Derived.Test.YtfnngcaalpknlaaGreatFrameP
import Derived.Test.YtfnngcaalpknlaaGreatBundleA
import Derived.Test.YtfnngcaalpknlaaGreatBundleE
import Derived.Test.YtfnngcaalpknlaaGreatBundleG
import Derived.Test.YtfnngcaalpknlaaGreatTv
import Derived.Test.YtfnngcaalpknlaaGreatBundleO
import Derived.Test.YtfnngcaalpknlaaGreatVecLinW
import Derived.Test.YtfnngcaalpknlaaGreatBundleH
import Derived.Test.YtfnngcaalpknlaaGreatFl
import Derived.Test.YtfnngcaalpknlaaGreatVdot


namespace Go.Proofs.YtfnngcaalpknlaaGreat
open Go.RowKit Go.Proofs.YtfnngcaalpknlaaGreat.Num
set_option linter.unusedVariables false
set_option maxRecDepth 100000

theorem same_c {w : World} {u v : Value} {x y L M : Nat} (hu : Cw w u x L) (hv : Cw w v y M) (hxy : x = y) :
    Calls Tryz.prog 81 #[u, v] w fun e w' => e = .returned (.bool true) ∧ Below w.heap.size w w' := by
  subst hxy
  obtain ⟨A, c, rfl, hx, h1, h2, _⟩ := hu
  obtain ⟨D, d, rfl, hy, h3, h4, _⟩ := hv
  refine (same_any _ _ A D _ c _ d _ _ w hx hy (by omega) (by omega)).mono fun e w' ⟨he, m, hm⟩ => ⟨by rw [he, sameB_true rfl], ?_⟩
  rw [hm]
  exact below_drewN (Below.refl _ _) m
end Go.Proofs.YtfnngcaalpknlaaGreat
namespace Go.Proofs.YtfnngcaalpknlaaGreat
open Go.RowKit Go.Proofs.YtfnngcaalpknlaaGreat.Num
set_option linter.unusedVariables false
set_option maxRecDepth 100000

set_option maxHeartbeats 2000000 in
theorem qto_any {w : World} {v : Value} {z : Int} {L : Nat} (h : Qi w v z L) (hL : L ≤ 100000000000) :
    Calls Tryz.prog 124 #[v] w (ZRet w z L) := by
  obtain ⟨u, rfl, hc⟩ := h
  obtain ⟨A, n, c, rfl⟩ := hc.iw.slice
  obtain ⟨s, hs⟩ : ∃ s, decide (z < 0) = s := ⟨_, rfl⟩
  rw [hs]
  have a1 : Below w.heap.size w (w.alloc (qbox s (.slice A n c))) := (Below.refl _ _).alloc (Nat.le_refl _) _
  have a2 : Below w.heap.size w ((w.alloc (qbox s (.slice A n c))).alloc zblk) := a1.alloc (by simp) _
  have p0 : ((w.alloc (qbox s (.slice A n c))).alloc zblk).cell? ⟨w.heap.size, 0, none⟩ = some (.bool s) := by go_simp
  have p1 : ((w.alloc (qbox s (.slice A n c))).alloc zblk).cell? ⟨w.heap.size, 1, none⟩ = some (.slice A n c) := by go_simp
  have hz : Zb ((w.alloc (qbox s (.slice A n c))).alloc zblk) (w.heap.size + 1) := by have h := Zb.new (w.alloc (qbox s (.slice A n c))); simpa using h
  have HS := hide (show w.heap.size + 1 < ((w.alloc (qbox s (.slice A n c))).alloc zblk).heap.size by simp)
  have H := hide (hc.step a2).iw
  have HA := hide a2
  have HZ := hide hz
  clear hc a1 a2 hz
  go_enter Tryz.func124, Tryz.ntmps124
  go_wp2_with fail
  generalize hW0 : (w.alloc (qbox s (.slice A n c))).alloc zblk = W0 at *
  have p0d : W0.drew.cell? ⟨w.heap.size, 0, none⟩ = some (.bool s) := p0
  have p1d : W0.drew.cell? ⟨w.heap.size, 1, none⟩ = some (.slice A n c) := p1
  have C := hide (to_l (w := W0.drew) (x := z.natAbs) H.out hL)
  go_region_held3 (fun W => W.cell? ⟨w.heap.size, 0, none⟩ = some (.bool s) ∧ W.cell? ⟨w.heap.size, 1, none⟩ = some (.slice A n c))
    (first
      | with_reducible exact ⟨p0d, p1d⟩
      | with_reducible exact ⟨cell_keep p0d b1, cell_keep p1d b1⟩
      | with_reducible exact ⟨cell_zset (cell_keep p0d b1) (by simp <;> omega) _ _, cell_zset (cell_keep p1d b1) (by simp <;> omega) _ _⟩)
    (first | (go_at_call 125; (with_reducible refine C.out.mono ?_); rintro e w1 ⟨r, rfl, -, c1, b1⟩; obtain ⟨A1, n1, c2, rfl, k0, k1, f0, f1, fin⟩ := to_fit (w0 := w) c1 (HZ.out.step HS.out (below_of_drew b1)) (by omega) (HA.out.trans ((below_of_drew b1).mono HA.out.size)) hs))
  all_goals
    have F := hide fin
    clear fin
    go_wp2_with fail
    exact bodyPost_ret (zret rfl _ _ _ #[.bool s, .slice A1 n1 c2] rfl rfl F.out.1) rfl F.out.2
end Go.Proofs.YtfnngcaalpknlaaGreat
namespace Go.Proofs.YtfnngcaalpknlaaGreat
open Go.RowKit Go.Proofs.YtfnngcaalpknlaaGreat.Num
set_option linter.unusedVariables false
set_option maxRecDepth 100000

theorem zsame_i {w : World} {u v : Value} {z : Int} {L M : Nat} (hu : Zi w u z L) (hv : Zi w v z M) :
    Calls Tryz.prog 80 #[u, v] w fun e w' => e = .returned (.bool true) ∧ Below w.heap.size w w' := by
  obtain ⟨u, rfl, hc⟩ := hu
  obtain ⟨v, rfl, hd⟩ := hv
  exact zsame_l (xs := cn Q z.natAbs) (L := L) (M := M) (cw_lw hc) (cw_lw hd)
end Go.Proofs.YtfnngcaalpknlaaGreat
namespace Go.Proofs.YtfnngcaalpknlaaGreat
open Go.RowKit Go.Proofs.YtfnngcaalpknlaaGreat.Num
set_option linter.unusedVariables false
set_option maxRecDepth 100000

set_option maxHeartbeats 4000000 in
theorem rfto_any {w : World} {v : Value} {r : Rat} {L : Nat} (h : Rf w v r L) (hL : L ≤ 100000000000) :
    Calls Tryz.prog 69 #[v] w (RRet w r L) := by
  obtain ⟨u, t, rfl, hu, ht⟩ := h
  obtain ⟨A, n, c, rfl⟩ := hu.iw.slice
  obtain ⟨D, m, d, rfl⟩ := ht.iw.slice
  obtain ⟨s, hs0⟩ : ∃ s, decide (r.num < 0) = s := ⟨_, rfl⟩
  have RC := hide (show ∀ W a b, Cw W a r.num.natAbs L → Cw W b r.den L → Rc W (rv s a b) r L from fun W a b h1 h2 => ⟨a, b, by rw [hs0], h1, h2⟩)
  have hq0 : Qi w (zv (decide (r.num < 0)) (.slice A n c)) r.num L := ⟨_, rfl, hu⟩
  generalize r.num = z at *
  generalize r.den = q at *
  rw [hs0] at hq0 ⊢
  have hs := hide hs0
  obtain ⟨b2, hz, p0, p1, p2⟩ := fq_world1 w s A D n c m d
  have nq : Qi ((w.alloc (fqbox s (.slice A n c) (.slice D m d))).alloc rblk).drew (zv s (.slice A n c)) z L := hq0.step b2
  have nt : Iw ((w.alloc (fqbox s (.slice A n c) (.slice D m d))).alloc rblk).drew (.slice D m d) q L := (ht.step b2).iw
  have B := hide b2
  have Z := hide hz
  clear hu ht b2 hz hq0 hs0
  go_enter Tryz.func69, Tryz.ntmps69
  go_wp2_with fail
  generalize hW0 : ((w.alloc (fqbox s (.slice A n c) (.slice D m d))).alloc rblk) = W0 at *
  go_region_held3 (fun W => W.cell? ⟨w.heap.size, 0, none⟩ = some (.bool s) ∧ W.cell? ⟨w.heap.size, 1, none⟩ = some (.slice A n c) ∧ W.cell? ⟨w.heap.size, 2, none⟩ = some (.slice D m d))
    (first | with_reducible exact ⟨p0, p1, p2⟩ | (refine ⟨?_, ?_, ?_⟩ <;> (repeat (first | (with_reducible assumption) | (with_reducible refine cell_keep ?_ (by with_reducible assumption)) | (with_reducible refine cell_rset ?_ (by simp <;> omega) _ _ _)))))
    (first
        | (go_at_call 124; refine Calls.mono (qto_any (z := z) (L := L) ?_ hL) ?_; (focus ((repeat (first | (with_reducible assumption) | (with_reducible refine Qi.step ?_ (by with_reducible assumption)))); done)); rintro e wx ⟨vx, rfl, ⟨u9, rfl, cu⟩, bx⟩; obtain ⟨A9, c9, rfl, -⟩ := id cu; rw [hs.out])
        | (go_at_call 125; refine Calls.mono (to_l (x := q) (L := L) ?_ hL) ?_; (focus ((repeat (first | (with_reducible assumption) | (with_reducible refine Iw.step ?_ (by with_reducible assumption)))); done)); rintro e wx ⟨r9, rfl, -, cr, bx⟩; obtain ⟨D9, d9, rfl, -⟩ := id cr; have st : Below W0.drew.heap.size W0.drew wx := (by (repeat (first | (with_reducible assumption) | (with_reducible refine Below.step1 ?_ (by with_reducible assumption))))); obtain ⟨k0, k1, k2, f0, f1, f2, fin⟩ := rret_put (w0 := w) (RC.out wx _ _ (cu.step bx) cr) (Z.out.step st) (by omega) (Below.step B.out B.out.size st)))
  all_goals
    have F9 := hide fin
    clear fin
    go_wp2_with fail
    exact bodyPost_ret (rret rfl _ _ _ _ rfl rfl F9.out.1) rfl F9.out.2
set_option maxHeartbeats 2000000 in
theorem rsame_c {w : World} {u v : Value} {r : Rat} {L M : Nat} (hu : Rc w u r L) (hv : Rc w v r M) :
    Calls Tryz.prog 28 #[u, v] w fun e w' => e = .returned (.bool true) ∧ Below w.heap.size w w' := by
  obtain ⟨u1, u2, rfl, a1, a2⟩ := hu
  obtain ⟨v1, v2, rfl, c1, c2⟩ := hv
  obtain ⟨A, n, c, rfl⟩ := a1.nw.slice
  obtain ⟨D, m, d, rfl⟩ := a2.nw.slice
  obtain ⟨F, k, f, rfl⟩ := c1.nw.slice
  obtain ⟨H, l, h, rfl⟩ := c2.nw.slice
  have za : Zi w (zv (decide (r.num < 0)) (.slice A n c)) r.num L := ⟨_, rfl, a1⟩
  have zb : Zi w (zv (decide (r.num < 0)) (.slice F k f)) r.num M := ⟨_, rfl, c1⟩
  generalize decide (r.num < 0) = s at *
  obtain ⟨b2, ⟨p0, p1, p2⟩, q0, q1, q2⟩ := f_world0 w s s A D F H n c m d k f l h
  have b3 : Below w.heap.size w ((w.alloc (rbox s (.slice A n c) (.slice D m d))).alloc (rbox s (.slice F k f) (.slice H l h))) := ((Below.refl _ _).alloc (Nat.le_refl _) _).alloc (by simp) _
  have C1 := hide (zsame_i (za.step b3) (zb.step b3))
  have N1 := hide (a2.step b3)
  have N2 := hide (c2.step b3)
  have B := hide b3
  have C : Hid (Fx ((w.alloc (rbox s (.slice A n c) (.slice D m d))).alloc (rbox s (.slice F k f) (.slice H l h))) w.heap.size s A n c D m d ∧ Fx ((w.alloc (rbox s (.slice A n c) (.slice D m d))).alloc (rbox s (.slice F k f) (.slice H l h))) (w.heap.size + 1) s F k f H l h) := hide ⟨⟨p0, p1, p2⟩, q0, q1, q2⟩
  clear za zb b2 b3 a1 a2 c1 c2 p0 p1 p2 q0 q1 q2
  go_enter Tryz.func28, Tryz.ntmps28
  go_wp2_with fail
  refine C1.out.mono ?_
  rintro e w1 ⟨rfl, b1⟩
  obtain ⟨p0, p1, p2⟩ := C.out.1.step b1
  obtain ⟨q0, q1, q2⟩ := C.out.2.step b1
  have B1 := hide (Below.step B.out B.out.size b1)
  have C2 := hide (same_c (N1.out.step b1) (N2.out.step b1) rfl)
  clear C1 N1 N2 B C b1
  go_wp2_with fail
  refine C2.out.mono ?_
  rintro e w2 ⟨rfl, b2⟩
  have B2 := hide (Below.step B1.out B1.out.size b2)
  clear C2 B1 b2 p0 p1 p2 q0 q1 q2
  go_wp2_with fail
  go_ret
  exact ⟨rfl, B2.out⟩
end Go.Proofs.YtfnngcaalpknlaaGreat
namespace Go.Proofs.YtfnngcaalpknlaaGreat
open Go.RowKit Go.Proofs.YtfnngcaalpknlaaGreat.Num
set_option linter.unusedVariables false
set_option linter.unusedSimpArgs false
set_option maxRecDepth 100000

theorem Ow.ot3 {W : World} {B : Nat} {v : Value} {d : List Rx} (h : Ow 42 er 3 W B v d) : ∀ g, v.ownBlock = some g → Ot W g := by
  intro g hg
  rcases h.form with ⟨rfl, _⟩ | ⟨g', cap, cur, rfl, hB, hlt, hh, r⟩
  · cases hg
  · have e : g' = g := by simpa [Value.ownBlock] using hg
    subst e
    exact ⟨cur, _, _, hh, by decide⟩
end Go.Proofs.YtfnngcaalpknlaaGreat
namespace Go.Proofs.YtfnngcaalpknlaaGreat
open Go.RowKit Go.Proofs.YtfnngcaalpknlaaGreat.Num
set_option linter.unusedVariables false
set_option linter.unusedSimpArgs false
set_option maxRecDepth 100000

theorem Rc.parts {w : World} {v : Value} {r : Rat} {L : Nat} (h : Rc w v r L) : ∃ s A n c D m d, v = rv s (.slice A n c) (.slice D m d) ∧ Rc w (rv s (.slice A n c) (.slice D m d)) r L := by
  obtain ⟨u, t, rfl, h1, h2⟩ := h
  obtain ⟨A, n, c, rfl⟩ := h1.nw.slice
  obtain ⟨D, m, d, rfl⟩ := h2.nw.slice
  exact ⟨_, A, n, c, D, m, d, rfl, _, _, rfl, h1, h2⟩
end Go.Proofs.YtfnngcaalpknlaaGreat
namespace Go.Proofs.YtfnngcaalpknlaaGreat
open Go.RowKit Go.Proofs.YtfnngcaalpknlaaGreat.Num
set_option linter.unusedVariables false
set_option linter.unusedSimpArgs false
set_option maxRecDepth 100000

theorem Tc.tv {W : World} {v : Value} {d : List Tx} {L : Nat} (h : Tc W v d L) : Tv W v d L := ⟨h.1, fun x hx => (h.2 x hx).ra⟩
set_option maxHeartbeats 8000000 in
theorem same_t {w : World} {u v : Value} {d f : List Tx} {L M : Nat} (hu : Tc w u d L) (hv : Tc w v f M) (he : tms d = tms f) :
    Calls Tryz.prog 66 #[u, v] w fun e w' => e = .returned (.bool true) ∧ Below w.heap.size w w' := by
  obtain ⟨A, c, e1, hc1, hc2, hc3⟩ := id hu.1
  obtain ⟨D, m, e2, hd1, hd2, hd3⟩ := id hv.1
  have hl : f.length = d.length := by have := congrArg List.length he; simpa [tms] using this.symm
  obtain ⟨n, hlen⟩ : ∃ n, n = d.length := ⟨_, rfl⟩
  rw [hl] at e2 hd1
  rw [← hlen] at e1 e2 hc1 hd1
  subst e1 e2
  have HU := hide hu
  have HV := hide hv
  have HE := hide he
  have HN := hide hlen
  have HL := hide hl
  unfold maxLen at hc2
  have t0 : ((n : Int) != (n : Int)) = false := by simp
  clear hu hv hc3 hd3 he hl hlen
  go_enter Tryz.func66, Tryz.ntmps66
  go_wp2_with fail
  go_loopw [5] (fun iv wr => ∃ k : Nat, k ≤ n ∧ iv = .int .i64 (k : Int) ∧ Hid (Below w.heap.size w wr)) (fun iv _ => n - (intOf iv).toNat)
  case atStart => exact ⟨0, Nat.zero_le _, rfl, hide (Below.refl _ _)⟩
  case round =>
    obtain ⟨k, hk, rfl, B⟩ := hrel
    by_cases hlt : k < n
    · obtain ⟨x, hx⟩ := len_of (d := d) (k := k) (by rw [← HN.out]; exact hlt)
      obtain ⟨y, hy⟩ := len_of (d := f) (k := k) (by rw [HL.out, ← HN.out]; exact hlt)
      obtain ⟨ec, er⟩ := tms_at HE.out hx hy
      have b8 := (Below.refl wr.heap.size wr).drew
      have B8 := hide (Below.step B.out B.out.size b8)
      have RX := hide (((HU.out.2 x (List.mem_of_getElem? hx)).step B.out).step b8)
      have RY := hide (show Rc wr.drew (rx y.x) x.x.r M by rw [er]; exact ((HV.out.2 y (List.mem_of_getElem? hy)).step B.out).step b8)
      obtain ⟨b, off, rfl, hb, hc⟩ := ((HU.out.1.step B.out).step b8).get hx
      obtain ⟨b', off', rfl, hb', hc'⟩ := ((HV.out.1.step B.out).step b8).get hy
      have c0 := hc 0 _ rfl
      have c1 := hc 1 _ rfl
      have c2 := hc 2 _ rfl
      have c3 := hc 3 _ rfl
      have e0 := hc' 0 _ rfl
      have e1 := hc' 1 _ rfl
      have e2 := hc' 2 _ rfl
      have e3 := hc' 3 _ rfl
      rw [Nat.add_zero] at c0 e0
      rw [← ec] at e0
      have l0 : (0 : Int) ≤ (k : Int) := by omega
      have l1 : (k : Int) < (n : Int) := by omega
      have t1 : (x.c != x.c) = false := by simp
      have P := hide (And.intro c0 (And.intro c1 (And.intro c2 (And.intro c3 (And.intro e0 (And.intro e1 (And.intro e2 e3)))))))
      clear hc hc' hb hb' hx hy ec er b8
      go_wp2_with fail
      go_region_held3 (fun W => W.cell? ⟨b, off + k * 4, none⟩ = some (.int .i64 x.c) ∧ W.cell? ⟨b, off + k * 4 + 1, none⟩ = some (.bool x.x.s) ∧ W.cell? ⟨b, off + k * 4 + 2, none⟩ = some (sv x.x.u) ∧ W.cell? ⟨b, off + k * 4 + 3, none⟩ = some (sv x.x.t) ∧ W.cell? ⟨b', off' + k * 4, none⟩ = some (.int .i64 x.c) ∧ W.cell? ⟨b', off' + k * 4 + 1, none⟩ = some (.bool y.x.s) ∧ W.cell? ⟨b', off' + k * 4 + 2, none⟩ = some (sv y.x.u) ∧ W.cell? ⟨b', off' + k * 4 + 3, none⟩ = some (sv y.x.t))
        (exact P.out)
        (first
          | (go_at_call 28; refine Calls.mono (rsame_c RX.out RY.out) ?_; rintro e wx ⟨rfl, bx⟩; replace P := hide (And.intro (cell_keep P.out.1 bx) (And.intro (cell_keep P.out.2.1 bx) (And.intro (cell_keep P.out.2.2.1 bx) (And.intro (cell_keep P.out.2.2.2.1 bx) (And.intro (cell_keep P.out.2.2.2.2.1 bx) (And.intro (cell_keep P.out.2.2.2.2.2.1 bx) (And.intro (cell_keep P.out.2.2.2.2.2.2.1 bx) (cell_keep P.out.2.2.2.2.2.2.2 bx)))))))); have B9 := hide (Below.step B8.out B8.out.size bx)))
      all_goals
        clear P c0 c1 c2 c3 e0 e1 e2 e3
        go_wp2_with fail
        exact ⟨⟨k + 1, by omega, by go_num, B9⟩, by simp [intOf]; omega⟩
    · obtain rfl : k = n := by omega
      go_wp2_with fail
      go_ret
      exact ⟨rfl, B.out⟩

theorem RRet.rx {w : World} {r : Rat} {L : Nat} {e : Ending} {w' : World} (h : RRet w r L e w') : ∃ x : Rx, e = .returned (rx x) ∧ x.r = r ∧ Rc w' (rx x) x.r L ∧ Below w.heap.size w w' := by
  obtain ⟨v, rfl, hc, hb⟩ := h
  obtain ⟨s, A, n, c, D, m, d, rfl, hc⟩ := hc.parts
  exact ⟨⟨s, (A, n, c), (D, m, d), r⟩, rfl, rfl, hc, hb⟩

end Go.Proofs.YtfnngcaalpknlaaGreat
namespace Go.Proofs.YtfnngcaalpknlaaGreat
open Go.RowKit Go.Proofs.YtfnngcaalpknlaaGreat.Num
set_option linter.unusedVariables false
set_option linter.unusedSimpArgs false
set_option maxRecDepth 100000

theorem bq3 {W : World} {g : Nat} {s : Bool} {u t : Value} (h : Bq W g s u t) : W.cell? ⟨g, 0, none⟩ = some (.bool s) ∧ W.cell? ⟨g, 1, none⟩ = some u ∧ W.cell? ⟨g, 2, none⟩ = some t := ⟨h.all.1, h.all.2.1, h.all.2.2.1⟩

end Go.Proofs.YtfnngcaalpknlaaGreat
namespace Go.Proofs.YtfnngcaalpknlaaGreat
open Go.RowKit Go.Proofs.YtfnngcaalpknlaaGreat.Num
set_option linter.unusedVariables false
set_option linter.unusedSimpArgs false
set_option maxRecDepth 100000

def Fg (W : World) (B : Nat) (v : Value) (l : List Rx) (K : Nat) : Prop := Ow 42 er 3 W B v l ∧ ∀ x ∈ l, Rg W B x K
theorem Fg.fv {W : World} {B : Nat} {v : Value} {l : List Rx} {K : Nat} (h : Fg W B v l K) : Fv W v l K := ⟨h.1.rl er_len, fun x hx => (h.2 x hx).ra⟩
end Go.Proofs.YtfnngcaalpknlaaGreat
namespace Go.Proofs.YtfnngcaalpknlaaGreat
open Go.RowKit Go.Proofs.YtfnngcaalpknlaaGreat.Num
set_option linter.unusedVariables false
set_option linter.unusedSimpArgs false
set_option maxRecDepth 100000

theorem mul_num (a b : Rat) : mkRat (a.num * b.num) (a.den * b.den) = a * b := by rw [Rat.mul_def, Rat.normalize_eq_mkRat]
set_option maxHeartbeats 8000000 in
theorem rqmul_any {w : World} {a b : Value} {r1 r2 : Rat} {L : Nat} (ha : Rf w a r1 L) (hb : Rf w b r2 L) (h1 : 1 ≤ L) (hL : L ≤ 10000000000) :
    Calls Tryz.prog 15 #[a, b] w (RfRet w (r1 * r2) (L + L)) := by
  obtain ⟨s, A, n, c, D, m, d, rfl, ha⟩ := ha.parts
  obtain ⟨t, F, k, f, H, l, h, rfl, hb⟩ := hb.parts
  obtain ⟨b2, hz, y1, y2⟩ := fq_world2 w s t A D F H n c m d k f l h
  have R := hide (And.intro (ha.split.1.step b2) (And.intro (ha.split.2.step b2) (And.intro (hb.split.1.step b2) (hb.split.2.step b2))))
  have P := hide (And.intro y1 y2)
  have B := hide b2
  have Z := hide hz
  have hg0 : w.heap.size ≠ w.heap.size + 1 + 1 := by omega
  have hg1 : w.heap.size + 1 ≠ w.heap.size + 1 + 1 := by omega
  clear ha hb y1 y2 b2 hz
  have HE := hide (mul_num r1 r2)
  have HP := hide (Nat.mul_pos (Nat.pos_of_ne_zero r1.den_nz) (Nat.pos_of_ne_zero r2.den_nz))
  generalize r1.num = a1 at *
  generalize r1.den = e1 at *
  generalize r2.num = a2 at *
  generalize r2.den = e2 at *
  go_enter Tryz.func15, Tryz.ntmps15
  go_wp2_with fail
  generalize hW0 : (((w.alloc (fqbox s (.slice A n c) (.slice D m d))).alloc (fqbox t (.slice F k f) (.slice H l h))).alloc fqblk) = W0 at *
  go_region_held3 (fun W => (W.cell? ⟨w.heap.size, 0, none⟩ = some (.bool s) ∧ W.cell? ⟨w.heap.size, 1, none⟩ = some (.slice A n c) ∧ W.cell? ⟨w.heap.size, 2, none⟩ = some (.slice D m d)) ∧ (W.cell? ⟨w.heap.size + 1, 0, none⟩ = some (.bool t) ∧ W.cell? ⟨w.heap.size + 1, 1, none⟩ = some (.slice F k f) ∧ W.cell? ⟨w.heap.size + 1, 2, none⟩ = some (.slice H l h)))
    (first | exact P.out | exact ⟨⟨cell_rset P.out.1.1 hg0 _ _ _, cell_rset P.out.1.2.1 hg0 _ _ _, cell_rset P.out.1.2.2 hg0 _ _ _⟩, cell_rset P.out.2.1 hg1 _ _ _, cell_rset P.out.2.2.1 hg1 _ _ _, cell_rset P.out.2.2.2 hg1 _ _ _⟩)
    (first
      | (go_at_call 62; refine Calls.mono (qmul_any (a := a1) (b := a2) (L := L) (M := L) ?_ ?_ (by omega) (by omega)) ?_; (focus ((with_reducible exact R.out.1); done)); (focus ((with_reducible exact R.out.2.2.1); done)); rintro e wx ⟨vx, rfl, tx, bx⟩; have TX := hide tx; clear tx; replace P := hide (And.intro (P.out.1.step bx) (P.out.2.step bx)); replace R := hide (And.intro (R.out.1.step bx) (And.intro (R.out.2.1.step bx) (And.intro (R.out.2.2.1.step bx) (R.out.2.2.2.step bx)))); replace Z := hide (Z.out.step bx); replace B := hide (Below.step B.out B.out.size bx); clear bx)
      | (go_at_call 61; refine Calls.mono (imul (L := L) (M := L) (qiden_ic R.out.2.1).iw (qiden_ic R.out.2.2.2).iw (by omega) (by omega)) ?_; rintro e wx ⟨vy, rfl, -, iy, bx⟩; have IY := hide iy; clear iy; replace TX := hide (TX.out.step bx); replace P := hide (And.intro (P.out.1.step bx) (P.out.2.step bx)); replace Z := hide (Z.out.step bx); replace B := hide (Below.step B.out B.out.size bx); clear bx)
      | (go_at_call 57; refine Calls.mono (lowest_q (z := a1 * a2) (y := e1 * e2) (L := L + L) TX.out IY.out HP.out (by omega) (by omega)) ?_; rintro e wx ⟨vx, rfl, tx, bx⟩; obtain ⟨sg, A9, n9, c9, D9, m9, d9, rfl, tx⟩ := tx.parts; obtain ⟨k0, k1, k2, f0, f1, f2, fin⟩ := rf_put (w0 := w) tx (Z.out.step bx) (by omega) (Below.step B.out B.out.size bx); replace P := hide (And.intro (P.out.1.step bx) (P.out.2.step bx))))
  all_goals
    have F9 := hide fin
    clear fin
    go_wp2_with fail
    exact bodyPost_ret (rfret rfl _ _ _ #[.bool sg, .slice A9 n9 c9, .slice D9 m9 d9] rfl rfl F9.out.1) rfl (by rw [← HE.out]; exact F9.out.2)
theorem rqmul_f {w : World} {a b : Value} {r1 r2 : Rat} {L M : Nat} (ha : Rf w a r1 L) (hb : Rf w b r2 M) (h1 : 1 ≤ L) (hL : L ≤ 4000000000) (hM : M ≤ 4000000000) :
    Calls Tryz.prog 15 #[a, b] w (RxRet w (r1 * r2) (L + M)) :=
  (rqmul_any (L := L + M) (ha.more (by omega)) (hb.more (by omega)) (by omega) (by omega)).mono fun e w' h => h.to (sz_mul ha.sz hb.sz)
end Go.Proofs.YtfnngcaalpknlaaGreat
namespace Go.Proofs.YtfnngcaalpknlaaGreat
open Go.RowKit Go.Proofs.YtfnngcaalpknlaaGreat.Num
set_option linter.unusedVariables false
set_option linter.unusedSimpArgs false
set_option maxRecDepth 100000

theorem Fv.tight {W : World} {v : Value} {d : List Rx} {L : Nat} (h : Fv W v d L) (hs : ∀ x ∈ d, x.u.2.1 + x.t.2.1 ≤ 6) : Fv W v d 6 :=
  ⟨h.1, fun x hx => (h.2 x hx).tight (by have := hs x hx; omega) (by have := hs x hx; omega)⟩
theorem E3.of {W : World} {A : Option Addr} {n c k : Nat} {d : List Rx} {x : Rx} (h : Lr er 3 W (.slice A n c) d) (hx : d[k]? = some x) : E3 W A (k * 3) x := by
  obtain ⟨b, off, rfl, hb, hc⟩ := h.get hx
  exact ⟨b, off, rfl, by have := hc 0 _ rfl; rwa [Nat.add_zero] at this, hc 1 _ rfl, hc 2 _ rfl⟩
theorem E3.cells {W : World} {b off j : Nat} {x : Rx} (h : E3 W (some ⟨b, off, none⟩) j x) : W.cell? ⟨b, off + j, none⟩ = some (.bool x.s) ∧ W.cell? ⟨b, off + j + 1, none⟩ = some (sv x.u) ∧ W.cell? ⟨b, off + j + 2, none⟩ = some (sv x.t) := by
  obtain ⟨b', off', e, h⟩ := h
  injection e with e
  injection e with e1 e2
  subst e1 e2
  exact h

set_option maxHeartbeats 8000000 in
theorem sameall_v {w : World} {u v : Value} {d f : List Rx} {zs : List Zt} {L M : Nat} (hu : Fl w u d zs L) (hv : Fl w v f zs M) :
    Calls Tryz.prog 32 #[u, v] w fun e w' => e = .returned (.bool true) ∧ Below w.heap.size w w' := by
  obtain ⟨A, c, e1, hc1, hc2, hc3⟩ := id hu.1
  obtain ⟨D, m, e2, hd1, hd2, hd3⟩ := id hv.1
  have hl : f.length = d.length := by rw [hv.2.1, hu.2.1]
  obtain ⟨n, hlen⟩ : ∃ n, n = d.length := ⟨_, rfl⟩
  rw [hl] at e2 hd1
  rw [← hlen] at e1 e2 hc1 hd1
  subst e1 e2
  have HU := hide hu
  have HV := hide hv
  have HN := hide hlen
  have HL := hide hl
  unfold maxLen at hc2
  have t0 : ((n : Int) != (n : Int)) = false := by simp
  clear hu hv hc3 hd3 hl hlen
  go_enter Tryz.func32, Tryz.ntmps32
  go_wp2_with fail
  go_loopw [5] (fun iv wr => ∃ k : Nat, k ≤ n ∧ iv = .int .i64 (k : Int) ∧ Hid (Below w.heap.size w wr)) (fun iv _ => n - (intOf iv).toNat)
  case atStart => exact ⟨0, Nat.zero_le _, rfl, hide (Below.refl _ _)⟩
  case round =>
    obtain ⟨k, hk, rfl, B⟩ := hrel
    by_cases hlt : k < n
    · obtain ⟨x, hx⟩ := len_of (d := d) (k := k) (by rw [← HN.out]; exact hlt)
      obtain ⟨y, hy⟩ := len_of (d := f) (k := k) (by rw [HL.out, ← HN.out]; exact hlt)
      obtain ⟨z, hz⟩ := zs_at HU.out.2.1 hx
      have b8 := (Below.refl wr.heap.size wr).drew
      have B8 := hide (Below.step B.out B.out.size b8)
      have RX := hide (((HU.out.2.2 k x z hx hz).step B.out).step b8).rl
      have RY := hide (((HV.out.2.2 k y z hy hz).step B.out).step b8).rl
      obtain ⟨b, off, rfl, hb, hc⟩ := ((HU.out.1.step B.out).step b8).get hx
      obtain ⟨b', off', rfl, hb', hc'⟩ := ((HV.out.1.step B.out).step b8).get hy
      have c0 := hc 0 _ rfl
      have c1 := hc 1 _ rfl
      have c2 := hc 2 _ rfl
      have e0 := hc' 0 _ rfl
      have e1 := hc' 1 _ rfl
      have e2 := hc' 2 _ rfl
      rw [Nat.add_zero] at c0 e0
      have l0 : (0 : Int) ≤ (k : Int) := by omega
      have l1 : (k : Int) < (n : Int) := by omega
      have P := hide (And.intro c0 (And.intro c1 (And.intro c2 (And.intro e0 (And.intro e1 e2)))))
      clear hc hc' hb hb' hx hy hz b8
      go_wp2_with fail
      go_region_held3 (fun W => W.cell? ⟨b, off + k * 3, none⟩ = some (.bool x.s) ∧ W.cell? ⟨b, off + k * 3 + 1, none⟩ = some (sv x.u) ∧ W.cell? ⟨b, off + k * 3 + 2, none⟩ = some (sv x.t) ∧ W.cell? ⟨b', off' + k * 3, none⟩ = some (.bool y.s) ∧ W.cell? ⟨b', off' + k * 3 + 1, none⟩ = some (sv y.u) ∧ W.cell? ⟨b', off' + k * 3 + 2, none⟩ = some (sv y.t))
        (exact P.out)
        (first
          | (go_at_call 28; refine Calls.mono (rsame_l RX.out RY.out) ?_; rintro e wx ⟨rfl, bx⟩; replace P := hide (And.intro (cell_keep P.out.1 bx) (And.intro (cell_keep P.out.2.1 bx) (And.intro (cell_keep P.out.2.2.1 bx) (And.intro (cell_keep P.out.2.2.2.1 bx) (And.intro (cell_keep P.out.2.2.2.2.1 bx) (cell_keep P.out.2.2.2.2.2 bx)))))); have B9 := hide (Below.step B8.out B8.out.size bx)))
      all_goals
        clear P c0 c1 c2 e0 e1 e2
        go_wp2_with fail
        exact ⟨⟨k + 1, by omega, by go_num, B9⟩, by simp [intOf]; omega⟩
    · obtain rfl : k = n := by omega
      go_wp2_with fail
      go_ret
      exact ⟨rfl, B.out⟩
def Fc (W : World) (v : Value) (d : List Rx) (L : Nat) : Prop := Lr er 3 W v d ∧ ∀ x ∈ d, Rc W (rx x) x.r L
theorem Fc.step {W W' : World} {v : Value} {d : List Rx} {L : Nat} (h : Fc W v d L) (hb : Below W.heap.size W W') : Fc W' v d L := ⟨h.1.step hb, fun x hx => (h.2 x hx).step hb⟩
theorem Fg.fc {W : World} {B : Nat} {v : Value} {l : List Rx} {K : Nat} (h : Fg W B v l K) : Fc W v l K := ⟨h.1.rl er_len, fun x hx => (h.2 x hx).1⟩

set_option maxHeartbeats 8000000 in
theorem sameall_t {w : World} {u v : Value} {d f : List Rx} {L M : Nat} (hu : Fc w u d L) (hv : Fc w v f M) (he : d.map Rx.r = f.map Rx.r) :
    Calls Tryz.prog 32 #[u, v] w fun e w' => e = .returned (.bool true) ∧ Below w.heap.size w w' := by
  obtain ⟨A, c, e1, hc1, hc2, hc3⟩ := id hu.1
  obtain ⟨D, m, e2, hd1, hd2, hd3⟩ := id hv.1
  have hl : f.length = d.length := by have := congrArg List.length he; simpa using this.symm
  obtain ⟨n, hlen⟩ : ∃ n, n = d.length := ⟨_, rfl⟩
  rw [hl] at e2 hd1
  rw [← hlen] at e1 e2 hc1 hd1
  subst e1 e2
  have HU := hide hu
  have HV := hide hv
  have HE := hide he
  have HN := hide hlen
  have HL := hide hl
  unfold maxLen at hc2
  have t0 : ((n : Int) != (n : Int)) = false := by simp
  clear hu hv hc3 hd3 he hl hlen
  go_enter Tryz.func32, Tryz.ntmps32
  go_wp2_with fail
  go_loopw [5] (fun iv wr => ∃ k : Nat, k ≤ n ∧ iv = .int .i64 (k : Int) ∧ Hid (Below w.heap.size w wr)) (fun iv _ => n - (intOf iv).toNat)
  case atStart => exact ⟨0, Nat.zero_le _, rfl, hide (Below.refl _ _)⟩
  case round =>
    obtain ⟨k, hk, rfl, B⟩ := hrel
    by_cases hlt : k < n
    · obtain ⟨x, hx⟩ := len_of (d := d) (k := k) (by rw [← HN.out]; exact hlt)
      obtain ⟨y, hy⟩ := len_of (d := f) (k := k) (by rw [HL.out, ← HN.out]; exact hlt)
      have er : x.r = y.r := by have e := congrArg (·[k]?) HE.out; simp only [List.getElem?_map, hx, hy] at e; simpa using e
      have b8 := (Below.refl wr.heap.size wr).drew
      have B8 := hide (Below.step B.out B.out.size b8)
      have RX := hide (((HU.out.2 x (List.mem_of_getElem? hx)).step B.out).step b8)
      have RY := hide (show Rc wr.drew (rx y) x.r M by rw [er]; exact ((HV.out.2 y (List.mem_of_getElem? hy)).step B.out).step b8)
      obtain ⟨b, off, rfl, hb, hc⟩ := ((HU.out.1.step B.out).step b8).get hx
      obtain ⟨b', off', rfl, hb', hc'⟩ := ((HV.out.1.step B.out).step b8).get hy
      have c0 := hc 0 _ rfl
      have c1 := hc 1 _ rfl
      have c2 := hc 2 _ rfl
      have e0 := hc' 0 _ rfl
      have e1 := hc' 1 _ rfl
      have e2 := hc' 2 _ rfl
      rw [Nat.add_zero] at c0 e0
      have l0 : (0 : Int) ≤ (k : Int) := by omega
      have l1 : (k : Int) < (n : Int) := by omega
      have P := hide (And.intro c0 (And.intro c1 (And.intro c2 (And.intro e0 (And.intro e1 e2)))))
      clear hc hc' hb hb' hx hy er b8
      go_wp2_with fail
      go_region_held3 (fun W => W.cell? ⟨b, off + k * 3, none⟩ = some (.bool x.s) ∧ W.cell? ⟨b, off + k * 3 + 1, none⟩ = some (sv x.u) ∧ W.cell? ⟨b, off + k * 3 + 2, none⟩ = some (sv x.t) ∧ W.cell? ⟨b', off' + k * 3, none⟩ = some (.bool y.s) ∧ W.cell? ⟨b', off' + k * 3 + 1, none⟩ = some (sv y.u) ∧ W.cell? ⟨b', off' + k * 3 + 2, none⟩ = some (sv y.t))
        (exact P.out)
        (first
          | (go_at_call 28; refine Calls.mono (rsame_c RX.out RY.out) ?_; rintro e wx ⟨rfl, bx⟩; replace P := hide (And.intro (cell_keep P.out.1 bx) (And.intro (cell_keep P.out.2.1 bx) (And.intro (cell_keep P.out.2.2.1 bx) (And.intro (cell_keep P.out.2.2.2.1 bx) (And.intro (cell_keep P.out.2.2.2.2.1 bx) (cell_keep P.out.2.2.2.2.2 bx)))))); have B9 := hide (Below.step B8.out B8.out.size bx)))
      all_goals
        clear P c0 c1 c2 e0 e1 e2
        go_wp2_with fail
        exact ⟨⟨k + 1, by omega, by go_num, B9⟩, by simp [intOf]; omega⟩
    · obtain rfl : k = n := by omega
      go_wp2_with fail
      go_ret
      exact ⟨rfl, B.out⟩
set_option maxHeartbeats 4000000 in
theorem greatall_c {w : World} {v : Value} {d : List Rx} {L : Nat} (hv : Fv w v d L) (hL : L ≤ 17592186044000) :
    Calls Tryz.prog 10 #[v] w fun e w' => Below w.heap.size w w' ∧ ∃ b : Bool, e = .returned (.bool b) ∧ (b = false → d.length ≤ 30 ∧ ∀ x ∈ d, x.u.2.1 + x.t.2.1 ≤ 6) := by
  obtain ⟨A, c, e1, hc1, hc2, hc3⟩ := id hv.1
  obtain ⟨n, hlen⟩ : ∃ n, n = d.length := ⟨_, rfl⟩
  rw [← hlen] at e1 hc1 ⊢
  subst e1
  have HV := hide hv
  have HN := hide hlen
  unfold maxLen at hc2
  clear hv hc3 hlen
  go_enter Tryz.func10, Tryz.ntmps10
  go_wp2_with fail
  go_loopw [3] (fun iv wr => ∃ (k : Nat), k ≤ n ∧ iv = .int .i64 (k : Int) ∧ Hid (Below w.heap.size w wr) ∧ Hid (∀ j x, j < k → d[j]? = some x → x.u.2.1 + x.t.2.1 ≤ 6)) (fun iv _ => n - (intOf iv).toNat)
  case atStart => exact ⟨0, Nat.zero_le _, rfl, hide (Below.refl _ _), hide (fun j x h => by omega)⟩
  case round =>
    obtain ⟨k, hk, rfl, B, P⟩ := hrel
    by_cases hlt : k < n
    · obtain ⟨x, hx⟩ := len_of (d := d) (k := k) (by rw [← HN.out]; exact hlt)
      have RX := hide ((HV.out.2 x (List.mem_of_getElem? hx)).step B.out)
      obtain ⟨b, off, rfl, hb, hc⟩ := (HV.out.1.step B.out).get hx
      have c0 := hc 0 _ rfl
      have c1 := hc 1 _ rfl
      have c2 := hc 2 _ rfl
      rw [Nat.add_zero] at c0
      have HX := hide hx
      have l0 : (0 : Int) ≤ (k : Int) := by omega
      have l1 : (k : Int) < (n : Int) := by omega
      clear hc hb hx
      go_wp2_with fail
      refine (words_x RX.out hL).mono ?_
      rintro e w2 ⟨rfl, bx⟩
      have B2 := hide (Below.step B.out B.out.size bx)
      obtain ⟨m, hm⟩ : ∃ m, m = x.u.2.1 + x.t.2.1 := ⟨_, rfl⟩
      rw [← hm]
      have HM := hide hm
      clear bx hm
      by_cases h6 : 6 < m
      · have t1 : decide ((6 : Int) < (m : Int)) = true := decide_eq_true (by omega)
        go_wp2_with fail
        go_ret
        exact ⟨B2.out, true, rfl, fun h => by cases h⟩
      · have t1 : decide ((6 : Int) < (m : Int)) = false := decide_eq_false (by omega)
        go_wp2_with fail
        exact ⟨⟨k + 1, by omega, by go_num, B2, hide (fun j y hj hy => by
          by_cases h : j = k
          · subst h
            rw [HX.out] at hy
            injection hy with hy
            subst hy
            have := HM.out
            omega
          · exact P.out j y (by omega) hy)⟩, by simp [intOf]; omega⟩
    · obtain rfl : k = n := by omega
      have HP := hide (show ∀ x ∈ d, x.u.2.1 + x.t.2.1 ≤ 6 from fun x hx => by
        obtain ⟨j, hj, e⟩ := List.getElem_of_mem hx
        exact P.out j x (by rw [HN.out]; exact hj) (by rw [List.getElem?_eq_getElem hj, e]))
      by_cases h30 : 30 < k
      · have t1 : decide ((30 : Int) < (k : Int)) = true := decide_eq_true (by omega)
        go_wp2_with fail
        go_ret
        exact ⟨B.out, true, rfl, fun h => by cases h⟩
      · have t1 : decide ((30 : Int) < (k : Int)) = false := decide_eq_false (by omega)
        have WW := hide (weight_c (HV.out.step B.out) hL)
        go_wp2_with fail
        refine WW.out.mono ?_
        rintro e w2 ⟨z, rfl, bx⟩
        have B2 := hide (Below.step B.out B.out.size bx)
        clear bx
        go_wp2_with fail
        go_ret
        exact ⟨B2.out, _, rfl, fun _ => ⟨by omega, HP.out⟩⟩
end Go.Proofs.YtfnngcaalpknlaaGreat
namespace Go.Proofs.YtfnngcaalpknlaaGreat
open Go.RowKit Go.Proofs.YtfnngcaalpknlaaGreat.Num
set_option linter.unusedVariables false
set_option linter.unusedSimpArgs false
set_option maxRecDepth 100000

theorem fl_mem {α : Type} {d : List α} {k : Nat} {x : α} (h : d[k]? = some x) : x ∈ d := List.mem_of_getElem? h
end Go.Proofs.YtfnngcaalpknlaaGreat
