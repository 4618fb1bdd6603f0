
/-
  Fractions: Mul, Form, Add, Sub: the result is the call's own.
-/
import Derived.Test.YtpfeacdhplbblaaGreatRown
import Derived.Test.YtpfeacdhplbblaaGreatBundleF


namespace Go.Proofs.YtpfeacdhplbblaaGreat
open Go.RowKit Go.Proofs.YtpfeacdhplbblaaGreat.Num
set_option linter.unusedVariables false
set_option linter.unusedSimpArgs false
set_option maxRecDepth 100000
set_option maxHeartbeats 8000000 in
theorem rform_o {w : World} {s : Bool} {A D : Option Addr} {n c m d x y L : Nat} (hu : Nw w (.slice A n c) x L) (ht : Nw w (.slice D m d) y L) (h1 : 1 ≤ L) (hL : L ≤ 17592186044000) :
    Calls Tryz.prog 24 #[rv s (.slice A n c) (.slice D m d)] w (RoRet w (mkRat (zi s x) (dn y)) L) := by
  obtain ⟨b2, hz, p0, p1, p2⟩ := f_world1 w s A D n c m d
  have nu : Nw ((w.alloc (rbox s (.slice A n c) (.slice D m d))).alloc rblk).drew (.slice A n c) x L := hu.step b2
  have nt : Nw ((w.alloc (rbox s (.slice A n c) (.slice D m d))).alloc rblk).drew (.slice D m d) y L := ht.step b2
  have za : Za ((w.alloc (rbox s (.slice A n c) (.slice D m d))).alloc rblk).drew (zv s (.slice A n c)) (zi s x) L := Za.of nu
  have B := hide b2
  have Z := hide hz
  clear hu ht b2 hz
  go_enter Tryz.func24, Tryz.ntmps24
  go_wp2_with fail
  generalize hW0 : ((w.alloc (rbox s (.slice A n c) (.slice D m d))).alloc rblk) = W0 at *
  go_region_held3 (fun W => W.cell? ⟨w.heap.size, 0, none⟩ = some (.bool s) ∧ W.cell? ⟨w.heap.size, 1, none⟩ = some (.slice A n c) ∧ W.cell? ⟨w.heap.size, 2, none⟩ = some (.slice D m d))
    (first | with_reducible exact ⟨p0, p1, p2⟩ | (refine ⟨?_, ?_, ?_⟩ <;> (repeat (first | (with_reducible assumption) | (with_reducible refine cell_keep ?_ (by with_reducible assumption)) | (with_reducible refine cell_rset ?_ (by simp) _ _ _)))))
    (first
        | (go_at_call 40; refine Calls.mono (under_a (s := s) (x := x) (y := y) (L := L) ?_ ?_ h1 hL) ?_; (focus ((repeat (first | (with_reducible assumption) | (with_reducible refine Nw.step ?_ (by with_reducible assumption)))); done)); (focus ((repeat (first | (with_reducible assumption) | (with_reducible refine Nw.step ?_ (by with_reducible assumption)))); done)); rintro e wx ⟨vx, rfl, tx, bx⟩)
        | (go_at_call 39; refine Calls.mono (over_own_a (p := zi s x) (q := dn y) (L := L) ?_ ?_ (dn_pos y) hL) ?_; (focus ((repeat (first | (with_reducible assumption) | (with_reducible refine Za.step ?_ (by with_reducible assumption)))); done)); (focus ((repeat (first | (with_reducible assumption) | (with_reducible refine Za.step ?_ (by with_reducible assumption)))); done)); rintro e wx ⟨sg, u9, t9, rfl, c9', o1, o2, dj, bx⟩; have st : Below W0.drew.heap.size W0.drew wx := (by (repeat (first | (with_reducible assumption) | (with_reducible refine Below.step1 ?_ (by with_reducible assumption))))); obtain ⟨A9, n9, c9, rfl⟩ := o1.slice; obtain ⟨D9, m9, d9, rfl⟩ := o2.slice; obtain ⟨k0, k1, k2, f0, f1, f2, fin⟩ := rr_put_o (w0 := w) c9' (o1.mono (own_le B.out.size (show Below W0.drew.heap.size W0.drew _ from by (repeat (first | (with_reducible assumption) | (with_reducible refine Below.step1 ?_ (by with_reducible assumption))))).size)) (o2.mono (own_le B.out.size (show Below W0.drew.heap.size W0.drew _ from by (repeat (first | (with_reducible assumption) | (with_reducible refine Below.step1 ?_ (by with_reducible assumption))))).size)) dj (Z.out.step st) (by omega) (Below.step B.out B.out.size st)))
  all_goals
    have F9 := hide fin
    clear fin
    go_wp2_with fail
    exact bodyPost_ret (rret rfl _ _ _ #[.bool sg, .slice A9 n9 c9, .slice D9 m9 d9] rfl rfl F9.out.1) rfl F9.out.2
end Go.Proofs.YtpfeacdhplbblaaGreat
