/-
  Shared texts, one behind the other: ZrefG, RatM, RatQ6, Pk, Spw, Vref1, Vref2, Vref3, Vref4, Vcpy, Vcpy2, Vspl.
-/
import Derived.Test.YtpfeacdhplbblaaGreatLatC
import Derived.Test.YtpfeacdhplbblaaGreatBundleE
import Derived.Test.YtpfeacdhplbblaaGreatBundleG
import Derived.Test.YtpfeacdhplbblaaGreatRatQ5
import Derived.Test.YtpfeacdhplbblaaGreatTm
import Derived.Test.YtpfeacdhplbblaaGreatTv
import Derived.Test.YtpfeacdhplbblaaGreatBundleO

namespace Go.Proofs.YtpfeacdhplbblaaGreat
open Go.RowKit Go.Proofs.YtpfeacdhplbblaaGreat.Num
set_option linter.unusedVariables false
set_option linter.unusedSimpArgs false
set_option maxRecDepth 100000

end Go.Proofs.YtpfeacdhplbblaaGreat

namespace Go.Proofs.YtpfeacdhplbblaaGreat.Num
abbrev Up (l : List Nat) : Prop := l.Pairwise (· < ·)
def Ins (x : Nat) (l os : List Nat) : Prop := Up os ∧ (∀ y, y ∈ os ↔ y = x ∨ y ∈ l) ∧ os.length ≤ l.length + 1
def Pl (ts : List Tm) (ps : List Nat) : Prop := Up ps ∧ (∀ y : Nat, y ∈ ps ↔ ∃ t ∈ ts, t.1 = (y : Int)) ∧ ps.length ≤ ts.length
end Go.Proofs.YtpfeacdhplbblaaGreat.Num


namespace Go.Proofs.YtpfeacdhplbblaaGreat
open Go.RowKit Go.Proofs.YtpfeacdhplbblaaGreat.Num
set_option linter.unusedVariables false
set_option linter.unusedSimpArgs false
set_option maxRecDepth 100000
def Spw (B : Nat) (w w' : World) : Prop := Below B w w' ∧ w.heap.size ≤ w'.heap.size ∧ ∀ b j, b < w.heap.size → w'.frozen? ⟨b, j, none⟩ = w.frozen? ⟨b, j, none⟩ ∧
  (w'.cell? ⟨b, j, none⟩ = w.cell? ⟨b, j, none⟩ ∨ ((∃ z : Int, w.cell? ⟨b, j, none⟩ = some (.int .u64 z)) ∧ ∃ z : Int, w'.cell? ⟨b, j, none⟩ = some (.int .u64 z))) ∧
  ∀ cs T fz, w.heap[b]? = some (.cells cs T fz) → ∃ cs', w'.heap[b]? = some (.cells cs' T fz) ∧ (T ≠ 62 → cs' = cs)
theorem Spw.refl (B : Nat) (w : World) : Spw B w w := ⟨Below.refl _ _, Nat.le_refl _, fun _ _ _ => ⟨rfl, .inl rfl, fun cs _ _ h => ⟨cs, h, fun _ => rfl⟩⟩⟩
theorem Spw.trans {B : Nat} {a b c : World} (h : Spw B a b) (k : Spw B b c) : Spw B a c := by
  refine ⟨h.1.trans k.1, Nat.le_trans h.2.1 k.2.1, fun g j hg => ?_⟩
  obtain ⟨f1, c1, t1⟩ := h.2.2 g j hg
  obtain ⟨f2, c2, t2⟩ := k.2.2 g j (Nat.lt_of_lt_of_le hg h.2.1)
  refine ⟨f2.trans f1, ?_, fun cs T fz hh => by obtain ⟨cs', h', n1⟩ := t1 cs T fz hh; obtain ⟨cs2, h2, n2⟩ := t2 cs' T fz h'; exact ⟨cs2, h2, fun hT => (n2 hT).trans (n1 hT)⟩⟩
  rcases c1 with c1 | ⟨c1, c1'⟩
  · rcases c2 with c2 | ⟨c2, c2'⟩
    · exact .inl (c2.trans c1)
    · exact .inr ⟨by rwa [c1] at c2, c2'⟩
  · rcases c2 with c2 | ⟨c2, c2'⟩
    · exact .inr ⟨c1, by rwa [← c2] at c1'⟩
    · exact .inr ⟨c1, c2'⟩
theorem Spw.of_below {B : Nat} {w w' : World} (h : Below w.heap.size w w') (hB : B ≤ w.heap.size) : Spw B w w' :=
  ⟨h.mono hB, h.size, fun b j hb => ⟨by unfold World.frozen?; rw [h.block b hb], .inl (h.cell (p := ⟨b, j, none⟩) hb), fun cs T fz hh => ⟨cs, (h.block b hb).trans hh, fun _ => rfl⟩⟩⟩
theorem Spw.put {B : Nat} {w w' : World} (h : Spw B w w') {b j : Nat} (hB : B ≤ b) (hlb : ∃ cs fz, w'.heap[b]? = some (.cells cs 62 fz)) {z : Int} (hc : w'.cell? ⟨b, j, none⟩ = some (.int .u64 z)) (y : Int) : Spw B w (w'.setCell ⟨b, j, none⟩ (.int .u64 y)) := by
  refine h.trans ⟨(Below.refl _ _).setCell hB _, by rw [World.size_setCell]; exact Nat.le_refl _, fun g i hg => ⟨by rw [World.frozen?_setCell], ?_, fun cs T fz hh => ?_⟩⟩
  rotate_left
  · by_cases he : g = b
    · subst he
      refine ⟨cs.setIfInBounds j (.int .u64 y), by simp [World.setCell, Array.getElem?_modify, hh], fun hT => ?_⟩
      obtain ⟨cs0, fz0, h0⟩ := hlb
      rw [hh] at h0
      injection h0 with h0
      injection h0 with _ h1
      exact absurd h1 hT
    · exact ⟨cs, (Below.heap_setCell _ _ _ _ he).trans hh, fun _ => rfl⟩
  by_cases he : g = b ∧ i = j
  · obtain ⟨rfl, rfl⟩ := he
    exact .inr ⟨⟨z, hc⟩, y, World.cell?_setCell_same' _ _ _ (by rw [hc]; rfl)⟩
  · refine .inl (World.cell?_setCell_other _ _ _ _ (fun e => he ?_))
    injection e with e1 e2
    exact ⟨e1.symm, e2.symm⟩
theorem cell_ltU {W : World} {g j : Nat} {v : Value} (h : W.cell? ⟨g, j, none⟩ = some v) : g < W.heap.size := by
  unfold World.cell? at h
  split at h
  · rename_i hb
    exact (Array.getElem?_eq_some_iff.1 hb).1
  · cases h
theorem Spw.cell {B : Nat} {w w' : World} (h : Spw B w w') {b j : Nat} {v : Value} (hc : w.cell? ⟨b, j, none⟩ = some v) (hv : ∀ z, v ≠ .int .u64 z) : w'.cell? ⟨b, j, none⟩ = some v := by
  rcases (h.2.2 b j (cell_ltU hc)).2.1 with e | ⟨⟨z, e⟩, _⟩
  · exact e.trans hc
  · rw [hc] at e
    injection e with e
    exact absurd e (hv z)
theorem Spw.wr {B B' : Nat} {w w' : World} (h : Spw B w w') {x : Sl} (hx : Wr w B' x) : Wr w' B' x := by
  rcases hx with hx | ⟨b, off, e, hB, hlt, hc⟩
  · exact .inl hx
  · have hlb := blk_lt hlt
    refine .inr ⟨b, off, e, hB, ?_, fun j hj => ?_⟩
    · obtain ⟨cs, fz, hh⟩ := hlt
      obtain ⟨cs', h', -⟩ := (h.2.2 b 0 hlb).2.2 cs _ fz hh
      exact ⟨cs', fz, h'⟩
    obtain ⟨⟨z, h1⟩, h2⟩ := hc j hj
    obtain ⟨f, c, -⟩ := h.2.2 b (off + j) hlb
    refine ⟨?_, f.trans h2⟩
    rcases c with c | ⟨_, c⟩
    · exact ⟨z, c.trans h1⟩
    · exact c
theorem ten_two : 2 ≤ 10000 := by omega
theorem Ic.fit {w : World} {v : Value} {x L M : Nat} (h : Ic w v x L) (hx : x < 10000 ^ M) : Ic w v x M := by
  obtain ⟨A, c, e, h1, h2⟩ := h
  exact ⟨A, c, e, h1, cn_length_le ten_two hx⟩
theorem Rf.fit {w : World} {v : Value} {r : Rat} {L M : Nat} (h : Rf w v r L) (hr : Sz 10000 r M) : Rf w v r M := by
  obtain ⟨u, t, e, h1, h2⟩ := h
  exact ⟨u, t, e, h1.fit hr.1, h2.fit hr.2⟩
theorem Rf.sz {w : World} {v : Value} {r : Rat} {L : Nat} (h : Rf w v r L) : Sz 10000 r L := by
  obtain ⟨u, t, e, h1, h2⟩ := h
  exact ⟨h1.iw.lt, h2.iw.lt⟩
theorem Q_ten : Q ≤ 10000 ^ 5 := by unfold Q; decide
def RxRet (w : World) (r : Rat) (L : Nat) (e : Ending) (w' : World) : Prop := ∃ x : Rx, e = .returned (rx x) ∧ x.r = r ∧ Rf w' (rx x) x.r L ∧ Below w.heap.size w w'
theorem RfRet.to {w : World} {r : Rat} {L M : Nat} {e : Ending} {w' : World} (h : RfRet w r L e w') (hs : Sz 10000 r M) : RxRet w r M e w' := by
  obtain ⟨v, rfl, h, hb⟩ := h
  obtain ⟨s, A, n, c, D, m, d, rfl, h⟩ := h.parts
  exact ⟨⟨s, (A, n, c), (D, m, d), r⟩, rfl, rfl, h.fit hs, hb⟩
theorem rof_f {w : World} {v : Value} {r : Rat} {L : Nat} (h : Ra w v r L) (h1 : 1 ≤ L) (hL : L ≤ 1000000000) :
    Calls Tryz.prog 27 #[v] w (RxRet w r (5 * L)) :=
  (rof_r h h1 hL).mono fun e w' k => k.to (sz_base Q_ten (h.sz h1))
theorem rqsmall_f (w : World) (z : Int) (h1 : -9223372036854775808 ≤ z) (h2 : z ≤ 9223372036854775807) :
    Calls Tryz.prog 38 #[.int .i64 z] w (RxRet w (z : Rat) 6) := (rqsmall_any w z h1 h2).mono fun e w' h => by
  obtain ⟨v, e1, h2, h3⟩ := h
  exact RfRet.to ⟨v, e1, h2, h3⟩ h2.sz
theorem rfto_f {w : World} {v : Value} {r : Rat} {L : Nat} (h : Rf w v r L) (hL : L ≤ 100000000000) :
    Calls Tryz.prog 26 #[v] w fun e w' => ∃ x : Rx, e = .returned (rx x) ∧ x.r = r ∧ Rc w' (rx x) x.r L ∧ Below w.heap.size w w' := (rfto_any h hL).mono fun e w' h => h.rx
def Fq (W : World) (g : Nat) (s : Bool) (u t : Value) : Prop := W.heap[g]? = some (fqbox s u t)
theorem Fq.new (w : World) (s : Bool) (u t : Value) : Fq (w.alloc (fqbox s u t)) w.heap.size s u t := heap_alloc_new w _
theorem Fq.lt {W : World} {g : Nat} {s : Bool} {u t : Value} (h : Fq W g s u t) : g < W.heap.size := by unfold Fq at h; exact (Array.getElem?_eq_some_iff.1 h).1
theorem Fq.step {W W' : World} {g : Nat} {s : Bool} {u t : Value} (h : Fq W g s u t) (hb : Below W.heap.size W W') : Fq W' g s u t := (hb.block g h.lt).trans h
theorem Fq.all {W : World} {g : Nat} {s : Bool} {u t : Value} (h : Fq W g s u t) : W.cell? ⟨g, 0, none⟩ = some (.bool s) ∧ W.cell? ⟨g, 1, none⟩ = some u ∧ W.cell? ⟨g, 2, none⟩ = some t ∧ W.frozen? ⟨g, 0, none⟩ = false ∧ W.frozen? ⟨g, 1, none⟩ = false ∧ W.frozen? ⟨g, 2, none⟩ = false :=
  ⟨cell_of_row W g 0 _ _ _ h, cell_of_row W g 1 _ _ _ h, cell_of_row W g 2 _ _ _ h, frozen_of_row W g 0 _ _ h, frozen_of_row W g 1 _ _ h, frozen_of_row W g 2 _ _ h⟩
theorem only_put2 (W : World) (g : Nat) (a b : Value) : W.grownBy ((W.setCell ⟨g, 0, none⟩ a).setCell ⟨g, 1, none⟩ b) (some g) :=
  only_set (p := ⟨g, 1, none⟩) (only_set (p := ⟨g, 0, none⟩) (only_refl W (some g)) rfl a) rfl b
def ZwRet (w : World) (z : Int) (L : Nat) (e : Ending) (w' : World) : Prop := ∃ A n c, e = .returned (zv (decide (z < 0)) (.slice A n c)) ∧ Cw w' (.slice A n c) z.natAbs L ∧ Wr w' w.heap.size (A, n, c) ∧ Below w.heap.size w w'
set_option maxHeartbeats 2000000 in
theorem qto_w {w : World} {v : Value} {z : Int} {L : Nat} (h : Qi w v z L) (hL : L ≤ 100000000000) :
    Calls Tryz.prog 43 #[v] w (ZwRet w z L) := by
  obtain ⟨u, rfl, hc⟩ := h
  obtain ⟨A, n, c, rfl⟩ := hc.iw.slice
  obtain ⟨s, hs⟩ : ∃ s, decide (z < 0) = s := ⟨_, rfl⟩
  unfold ZwRet
  rw [hs]
  have a1 : Below w.heap.size w (w.alloc (qbox s (.slice A n c))) := (Below.refl _ _).alloc (Nat.le_refl _) _
  have a2 : Below w.heap.size w ((w.alloc (qbox s (.slice A n c))).alloc zblk) := a1.alloc (by simp) _
  have p0 : ((w.alloc (qbox s (.slice A n c))).alloc zblk).cell? ⟨w.heap.size, 0, none⟩ = some (.bool s) := by go_simp
  have p1 : ((w.alloc (qbox s (.slice A n c))).alloc zblk).cell? ⟨w.heap.size, 1, none⟩ = some (.slice A n c) := by go_simp
  have hz : Zb ((w.alloc (qbox s (.slice A n c))).alloc zblk) (w.heap.size + 1) := by have h := Zb.new (w.alloc (qbox s (.slice A n c))); simpa using h
  have HS := hide (show w.heap.size + 1 < ((w.alloc (qbox s (.slice A n c))).alloc zblk).heap.size by simp)
  have H := hide (hc.step a2).iw
  have HA := hide a2
  have HZ := hide hz
  clear hc a1 a2 hz
  go_enter Tryz.func43, Tryz.ntmps43
  go_wp2_with fail
  generalize hW0 : (w.alloc (qbox s (.slice A n c))).alloc zblk = W0 at *
  have p0d : W0.drew.cell? ⟨w.heap.size, 0, none⟩ = some (.bool s) := p0
  have p1d : W0.drew.cell? ⟨w.heap.size, 1, none⟩ = some (.slice A n c) := p1
  have C := hide (to_l (w := W0.drew) (x := z.natAbs) H.out hL)
  go_region_held3 (fun W => W.cell? ⟨w.heap.size, 0, none⟩ = some (.bool s) ∧ W.cell? ⟨w.heap.size, 1, none⟩ = some (.slice A n c))
    (first
      | with_reducible exact ⟨p0d, p1d⟩
      | with_reducible exact ⟨cell_keep p0d b1, cell_keep p1d b1⟩
      | with_reducible exact ⟨cell_zset (cell_keep p0d b1) (by simp <;> omega) _ _, cell_zset (cell_keep p1d b1) (by simp <;> omega) _ _⟩)
    (first | (go_at_call 44; (with_reducible refine C.out.mono ?_); rintro e w1 ⟨r, rfl, o1, c1, b1⟩; obtain ⟨A1, n1, c2, rfl, k0, k1, f0, f1, fin⟩ := to_fit (w0 := w) (z := z) c1 (HZ.out.step HS.out (below_of_drew b1)) (by omega) (HA.out.trans ((below_of_drew b1).mono HA.out.size)) hs; have ZZ := hide (HZ.out.step HS.out (below_of_drew b1)); have CC := hide (c1.zset ZZ.out (.bool s) (.slice A1 n1 c2)); have WW := hide ((o1.wr.mono (B' := w.heap.size) HA.out.size).grown (only_put2 w1 (w.heap.size + 1) (.bool s) (.slice A1 n1 c2)) (nu_of ZZ.out rfl)); clear o1 c1))
  all_goals
    obtain ⟨fh, rr, fe, fl, fb⟩ := fin
    have F := hide (And.intro fh fb)
    clear fh fe fl fb
    go_wp2_with fail
    exact bodyPost_ret (zret rfl _ _ _ #[.bool s, .slice A1 n1 c2] rfl rfl F.out.1) rfl ⟨A1, n1, c2, rfl, CC.out, WW.out, F.out.2⟩
set_option maxHeartbeats 4000000 in
theorem rfto_g {w : World} {v : Value} {r : Rat} {L : Nat} (h : Rf w v r L) (hL : L ≤ 100000000000) :
    Calls Tryz.prog 26 #[v] w (RgRet w r L) := by
  obtain ⟨u, t, rfl, hu, ht⟩ := h
  obtain ⟨A, n, c, rfl⟩ := hu.iw.slice
  obtain ⟨D, m, d, rfl⟩ := ht.iw.slice
  obtain ⟨s, hs0⟩ : ∃ s, decide (r.num < 0) = s := ⟨_, rfl⟩
  have RC := hide (show ∀ W a b, Cw W a r.num.natAbs L → Cw W b r.den L → Rc W (rv s a b) r L from fun W a b h1 h2 => ⟨a, b, by rw [hs0], h1, h2⟩)
  have hq0 : Qi w (zv (decide (r.num < 0)) (.slice A n c)) r.num L := ⟨_, rfl, hu⟩
  generalize r.num = z at *
  generalize r.den = q at *
  rw [hs0] at hq0 ⊢
  have hs := hide hs0
  obtain ⟨b2, hz, p0, p1, p2⟩ := fq_world1 w s A D n c m d
  have nq : Qi ((w.alloc (fqbox s (.slice A n c) (.slice D m d))).alloc rblk).drew (zv s (.slice A n c)) z L := hq0.step b2
  have nt : Iw ((w.alloc (fqbox s (.slice A n c) (.slice D m d))).alloc rblk).drew (.slice D m d) q L := (ht.step b2).iw
  have B := hide b2
  have Z := hide hz
  have P := hide (And.intro p0 (And.intro p1 p2))
  have NQ := hide nq
  have NT := hide nt
  clear hu ht b2 hz hq0 hs0 nq nt p0 p1 p2
  go_enter Tryz.func26, Tryz.ntmps26
  go_wp2_with fail
  generalize hW0 : ((w.alloc (fqbox s (.slice A n c) (.slice D m d))).alloc rblk) = W0 at *
  go_region_held3 (fun W => W.cell? ⟨w.heap.size, 0, none⟩ = some (.bool s) ∧ W.cell? ⟨w.heap.size, 1, none⟩ = some (.slice A n c) ∧ W.cell? ⟨w.heap.size, 2, none⟩ = some (.slice D m d))
    (first | exact P.out | exact ⟨cell_rset P.out.1 (by simp) _ _ _, cell_rset P.out.2.1 (by simp) _ _ _, cell_rset P.out.2.2 (by simp) _ _ _⟩)
    (first
        | (go_at_call 43; refine Calls.mono (qto_w (z := z) (L := L) NQ.out hL) ?_; rintro e wx ⟨A9, n9, c9, rfl, cu, wu, bx⟩; rw [hs.out]; have CU := hide cu; have WU := hide (wu.mono (B' := w.heap.size) B.out.size); replace NT := hide (NT.out.step bx); replace P := hide (And.intro (cell_keep P.out.1 bx) (And.intro (cell_keep P.out.2.1 bx) (cell_keep P.out.2.2 bx))); replace Z := hide (Z.out.step bx); replace B := hide (Below.step B.out B.out.size bx); clear cu wu bx)
        | (go_at_call 44; refine Calls.mono (to_l (x := q) (L := L) NT.out hL) ?_; rintro e wx ⟨r9, rfl, o9, cr, bx⟩; obtain ⟨D9, d9, rfl, -⟩ := id cr; obtain ⟨⟨k0, k1, k2, f0, f1, f2⟩, fin⟩ := rg_put (w0 := w) (x := ⟨s, (A9, n9, c9), (D9, (cn Q q).length, d9), r⟩) (L := L) ⟨RC.out wx _ _ (CU.out.step bx) cr, WU.out.step bx, o9.wr.mono (B' := w.heap.size) B.out.size⟩ (Z.out.step bx) (by omega) (Below.step B.out B.out.size bx); replace P := hide (And.intro (cell_keep P.out.1 bx) (And.intro (cell_keep P.out.2.1 bx) (cell_keep P.out.2.2 bx)))))
  all_goals
    have F9 := hide fin
    clear fin
    go_wp2_with fail
    exact bodyPost_ret (rret rfl _ _ _ _ rfl rfl F9.out.1) rfl F9.out.2
theorem Lw.grownU {W W' : World} {v : Value} {xs : List Nat} {L g : Nat} (h : Lw W v xs L) (hg : W.grownBy W' (some g)) (hn : Nu W g) : Lw W' v xs L := by
  obtain ⟨A, n, c, e, h1, h2⟩ := h
  exact ⟨A, n, c, e, h1.grownU hg hn, h2⟩
set_option maxHeartbeats 2000000 in
theorem zcopy_w {w : World} {s : Bool} {u : Value} {xs : List Nat} {L : Nat} (hu : Lw w u xs L) (hL : L ≤ 17592186044000) :
    Calls Tryz.prog 22 #[zv s u] w fun e w' => ∃ A n c, e = .returned (zv s (.slice A n c)) ∧ Lw w' (.slice A n c) xs L ∧ Wr w' w.heap.size (A, n, c) ∧ Below w.heap.size w w' := by
  obtain ⟨A, n, c, rfl⟩ := hu.nw.slice
  have a1 : Below w.heap.size w (w.alloc (zbox s (.slice A n c))) := (Below.refl _ _).alloc (Nat.le_refl _) _
  have a2 : Below w.heap.size w ((w.alloc (zbox s (.slice A n c))).alloc zblk) := a1.alloc (by simp) _
  have p0 : ((w.alloc (zbox s (.slice A n c))).alloc zblk).cell? ⟨w.heap.size, 0, none⟩ = some (.bool s) := by go_simp
  have p1 : ((w.alloc (zbox s (.slice A n c))).alloc zblk).cell? ⟨w.heap.size, 1, none⟩ = some (.slice A n c) := by go_simp
  have hz : Zb ((w.alloc (zbox s (.slice A n c))).alloc zblk) (w.heap.size + 1) := by have h := Zb.new (w.alloc (zbox s (.slice A n c))); simpa using h
  have HS := hide (show w.heap.size + 1 < ((w.alloc (zbox s (.slice A n c))).alloc zblk).heap.size by simp)
  have H := hide (hu.step a2)
  have HA := hide a2
  have HZ := hide hz
  clear hu a1 a2 hz
  go_enter Tryz.func22, Tryz.ntmps22
  go_wp2_with fail
  generalize hW0 : (w.alloc (zbox s (.slice A n c))).alloc zblk = W0 at *
  have p0d : W0.drew.cell? ⟨w.heap.size, 0, none⟩ = some (.bool s) := p0
  have p1d : W0.drew.cell? ⟨w.heap.size, 1, none⟩ = some (.slice A n c) := p1
  have C := hide (copy_l (w := W0.drew) H.out hL)
  go_region_held3 (fun W => W.cell? ⟨w.heap.size, 0, none⟩ = some (.bool s) ∧ W.cell? ⟨w.heap.size, 1, none⟩ = some (.slice A n c))
    (first
      | with_reducible exact ⟨p0d, p1d⟩
      | with_reducible exact ⟨cell_keep p0d b1, cell_keep p1d b1⟩
      | with_reducible exact ⟨cell_zset (cell_keep p0d b1) (by simp <;> omega) _ _, cell_zset (cell_keep p1d b1) (by simp <;> omega) _ _⟩)
    (first
      | (go_at_call 23; (with_reducible refine C.out.mono ?_); rintro e w1 ⟨r, rfl, o1, c1, b1⟩; obtain ⟨A1, n1, c2, rfl, k0, k1, f0, f1, fin⟩ := copy_fit (w0 := w) (s := s) c1 (HZ.out.step HS.out (below_of_drew b1)) (by omega) (HA.out.trans ((below_of_drew b1).mono HA.out.size)); have ZZ := hide (HZ.out.step HS.out (below_of_drew b1)); have CC := hide (c1.grownU (only_put2 w1 (w.heap.size + 1) (.bool s) (.slice A1 n1 c2)) (nu_of ZZ.out rfl)); have WW := hide ((o1.wr.mono (B' := w.heap.size) HA.out.size).grown (only_put2 w1 (w.heap.size + 1) (.bool s) (.slice A1 n1 c2)) (nu_of ZZ.out rfl)); clear o1 c1))
  all_goals
    obtain ⟨fh, rr, fe, fl, fb⟩ := fin
    have BB := hide fb
    have F := hide fh
    clear fh fe fl fb
    go_wp2_with fail
    exact bodyPost_ret (zret rfl _ _ _ #[.bool s, .slice A1 n1 c2] rfl rfl F.out) rfl ⟨A1, n1, c2, rfl, CC.out, WW.out, BB.out⟩
structure Zt where
  c : Int
  s : Bool
  xs : List Nat
  ys : List Nat
instance : Inhabited Zt := ⟨⟨0, false, [], []⟩⟩
def Zt.r (z : Zt) : Rat := mkRat (zi z.s (vl Q z.xs)) (dn (vl Q z.ys))
def Zf (W : World) (x : Rx) (z : Zt) (L : Nat) : Prop := x.s = z.s ∧ x.r = z.r ∧ Lw W (sv x.u) z.xs L ∧ Lw W (sv x.t) z.ys L
theorem Zf.rl {W : World} {x : Rx} {z : Zt} {L : Nat} (h : Zf W x z L) : Rl W (rx x) z.s z.xs z.ys L := ⟨_, _, by rw [← h.1], h.2.2.1, h.2.2.2⟩
theorem Zf.ra {W : World} {x : Rx} {z : Zt} {L : Nat} (h : Zf W x z L) : Ra W (rx x) x.r L := by rw [h.2.1]; exact h.rl.ra
def Zg (W : World) (B : Nat) (x : Rx) (z : Zt) (L : Nat) : Prop := Zf W x z L ∧ Wr W B x.u ∧ Wr W B x.t
theorem Zg.grown {W W' : World} {B L g : Nat} {x : Rx} {z : Zt} (h : Zg W B x z L) (hg : W.grownBy W' (some g)) (hn : Nu W g) : Zg W' B x z L := ⟨⟨h.1.1, h.1.2.1, h.1.2.2.1.grownU hg hn, h.1.2.2.2.grownU hg hn⟩, h.2.1.grown hg hn, h.2.2.grown hg hn⟩
theorem zg_put {w0 w : World} {x : Rx} {z : Zt} {L g : Nat} (h : Zg w w0.heap.size x z L) (hz : Rb w g) (hg0 : w0.heap.size ≤ g) (hb : Below w0.heap.size w0 w) :
    (w.cell? ⟨g, 0, none⟩ = some (.bool false) ∧ w.cell? ⟨g, 1, none⟩ = some (.slice none 0 0) ∧ w.cell? ⟨g, 2, none⟩ = some (.slice none 0 0) ∧
      w.frozen? ⟨g, 0, none⟩ = false ∧ w.frozen? ⟨g, 1, none⟩ = false ∧ w.frozen? ⟨g, 2, none⟩ = false) ∧
      (((w.setCell ⟨g, 0, none⟩ (.bool x.s)).setCell ⟨g, 1, none⟩ (sv x.u)).setCell ⟨g, 2, none⟩ (sv x.t)).heap[g]? = some (.cells #[.bool x.s, sv x.u, sv x.t] 36 (0, 0)) ∧
        Zg (((w.setCell ⟨g, 0, none⟩ (.bool x.s)).setCell ⟨g, 1, none⟩ (sv x.u)).setCell ⟨g, 2, none⟩ (sv x.t)) w0.heap.size x z L ∧ Below w0.heap.size w0 (((w.setCell ⟨g, 0, none⟩ (.bool x.s)).setCell ⟨g, 1, none⟩ (sv x.u)).setCell ⟨g, 2, none⟩ (sv x.t)) :=
  ⟨⟨hz.c0, hz.c1, hz.c2, hz.fz 0, hz.fz 1, hz.fz 2⟩, hz.set _ _ _, h.grown (only_put3 w g _ _ _) hz.nu, below_put3 hb hg0 _ _ _⟩
theorem zf_of {W : World} {x : Rx} {L : Nat} (h : Ra W (rx x) x.r L) (c : Int) : ∃ z : Zt, z.c = c ∧ Zf W x z L := by
  obtain ⟨s, u, t, a, b, e, h1, h2, h3⟩ := h
  injection e with e
  have e3 := congrArg Array.toList e
  simp at e3
  obtain ⟨e4, e5, e6⟩ := e3
  obtain ⟨xs, e1, l1⟩ := h1.lw
  obtain ⟨ys, e2, l2⟩ := h2.lw
  subst e1 e2
  exact ⟨⟨c, s, xs, ys⟩, rfl, e4, h3, by rw [e5]; exact l1, by rw [e6]; exact l2⟩
set_option maxHeartbeats 4000000 in
theorem rcopy_w {w : World} {x : Rx} {z : Zt} {L : Nat} (hv : Zf w x z L) (hL : L ≤ 17592186044000) :
    Calls Tryz.prog 7 #[rx x] w fun e w' => ∃ y : Rx, e = .returned (rx y) ∧ Zg w' w.heap.size y z L ∧ Below w.heap.size w w' := by
  obtain ⟨s, ⟨A, n, c⟩, ⟨D, m, d⟩, r⟩ := x
  obtain ⟨zc, zs, xs, ys⟩ := z
  obtain ⟨e1, e2, h1, h2⟩ := hv
  dsimp only at e1
  subst e1
  have HR := hide e2
  clear e2
  obtain ⟨b2, hz, y1⟩ := f_world1 w s A D n c m d
  have N1 := hide (h1.step b2)
  have N2 := hide (h2.step b2)
  have P := hide y1
  have B := hide b2
  have Z := hide hz
  have hg0 : w.heap.size ≠ w.heap.size + 1 := by omega
  clear h1 h2 y1 b2 hz
  show Calls Tryz.prog 7 #[rv s (.slice A n c) (.slice D m d)] w _
  go_enter Tryz.func7, Tryz.ntmps7
  go_wp2_with fail
  generalize hW0 : ((w.alloc (rbox s (.slice A n c) (.slice D m d))).alloc rblk) = W0 at *
  go_region_held3 (fun W => (W.cell? ⟨w.heap.size, 0, none⟩ = some (.bool s) ∧ W.cell? ⟨w.heap.size, 1, none⟩ = some (.slice A n c) ∧ W.cell? ⟨w.heap.size, 2, none⟩ = some (.slice D m d)))
    (first | exact P.out | exact ⟨cell_rset P.out.1 hg0 _ _ _, cell_rset P.out.2.1 hg0 _ _ _, cell_rset P.out.2.2 hg0 _ _ _⟩)
    (first
      | (go_at_call 22; refine Calls.mono (zcopy_w (L := L) N1.out hL) ?_; rintro e wx ⟨A1, n1, c1, rfl, l1, w1, bx⟩; have L1 := hide l1; have W1 := hide (w1.mono (B' := w.heap.size) B.out.size); replace P := hide (P.out.step bx); replace N2 := hide (N2.out.step bx); replace Z := hide (Z.out.step bx); replace B := hide (Below.step B.out B.out.size bx); clear l1 w1 bx)
      | (go_at_call 23; refine Calls.mono (copy_l (L := L) N2.out hL) ?_; rintro e wx ⟨u2, rfl, o2, l2, bx⟩; obtain ⟨A2, n2, c2, rfl⟩ := l2.nw.slice; replace P := hide (P.out.step bx); obtain ⟨⟨k0, k1, k2, f0, f1, f2⟩, fin⟩ := zg_put (w0 := w) (x := ⟨s, (A1, n1, c1), (A2, n2, c2), r⟩) (z := ⟨zc, s, xs, ys⟩) (L := L) ⟨⟨rfl, HR.out, L1.out.step bx, l2⟩, W1.out.step bx, o2.wr.mono (B' := w.heap.size) B.out.size⟩ (Z.out.step bx) (by omega) (Below.step B.out B.out.size bx)))
  all_goals
    have F9 := hide fin
    clear fin
    go_wp2_with fail
    exact bodyPost_ret (rret rfl _ _ _ #[.bool s, .slice A1 n1 c1, .slice A2 n2 c2] rfl rfl F9.out.1) rfl ⟨⟨s, (A1, n1, c1), (A2, n2, c2), r⟩, rfl, F9.out.2⟩

end Go.Proofs.YtpfeacdhplbblaaGreat
