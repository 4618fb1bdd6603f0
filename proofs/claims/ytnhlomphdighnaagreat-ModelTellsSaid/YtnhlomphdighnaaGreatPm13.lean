
/-
 The document's Copy of a problem.
-/
import Derived.Test.YtnhlomphdighnaaGreatPm12
import Derived.Test.YtnhlomphdighnaaGreatKdrw
import Derived.Deep.DeepCutAuto


namespace Go.Proofs.YtnhlomphdighnaaGreat
open Go.RowKit Go.Proofs.YtnhlomphdighnaaGreat.Num
set_option linter.unusedVariables false
set_option linter.unusedSimpArgs false
set_option maxRecDepth 100000
theorem info_wx : (Tryz.prog.info? 53).map (fun i => (i.zero, i.size, i.bytes)) = some (some (.agg #[.string ⟨#[]⟩, .bool false, .bool false, .bool false, .slice none 0 0, .slice none 0 0, .bool false, .slice none 0 0, .slice none 0 0, .slice none 0 0]), 10, 160) := by kernel_rfl
theorem info_ux : (Tryz.prog.info? 43).map (fun i => (i.zero, i.size, i.bytes)) = some (some (.agg #[.string ⟨#[]⟩, .bool false, .bool false, .bool false, .bool false, .slice none 0 0, .slice none 0 0, .bool false, .slice none 0 0, .slice none 0 0, .bool false, .slice none 0 0, .slice none 0 0]), 13, 192) := by kernel_rfl
section
variable {α : Type} {enc : α → List Value} {k : Nat}
theorem run_pushB {P : Program} {t e : TypeId} {i : TypeInfo} {z : Value} {by_ : Nat} (ht : P.underlying t = some (.slice e)) (hi : P.info? e = some i) (hz : i.zero = some z)
  (hsize : i.size = k) (hby : i.bytes = by_) (hzs : z.cells.size = k) (h0 : 0 < k) (hk : ∀ x, (enc x).length = k) (h1 : ∀ x, ∀ u ∈ enc x, u.oneCell' = true) (ty : TypeId) (wr : World) (B : Nat) (v : Value) (d : List α) (x : α) (cs : Array Value) (hcs : cs.toList = enc x) (hown : Ow e enc k wr B v d)
  (hlen : d.length + 1 ≤ 1000000000) (hb8 : by_ ≤ 256) (hB : B ≤ wr.heap.size) :
  ∃ v' w', (Builtin.append_ #[t, t] ty #[v, .slice (some ⟨wr.heap.size, 0, none⟩) 1 1]).run P (wr.alloc (.cells cs e)) = .ok v' w' ∧ Ow e enc k w' B v' (d ++ [x]) ∧
   (wr.grownBy w' v.ownBlock ∧ (v'.ownBlock = v.ownBlock ∨ v'.ownBlock = some (wr.heap.size + 1))) := by
 have ho : (wr.alloc (.cells cs e)).ownsRow B e k v d.length (flat enc d) := World.ownsRow.alloc hown _
 obtain ⟨v', w', hr, h2, h3, -, h5⟩ := run_append_own_at (P := P) (wr.alloc (.cells cs e)) B t ty e i z k by_ ht hi hz hsize hby hzs h0 v d.length _ ho
  ⟨wr.heap.size, 0, none⟩ 1 1 (enc x) (by rw [hk, Nat.one_mul]) (by
   intro j u hj
   have e1 : (⟨wr.heap.size, 0, none⟩ : Addr).add j = ⟨wr.heap.size, j, none⟩ := by
    unfold Addr.add
    by_cases h : j = 0
    ·subst h; simp
    ·simp [h]
   rw [e1, cell_of_row _ wr.heap.size j cs e (0, 0) (heap_alloc_new _ _), ← Array.getElem?_toList, hcs]
   exact hj) (h1 x) (by unfold maxLen; omega)
   (by
    have h := Nat.mul_le_mul hlen hb8
    omega) (by simp; omega)
 refine ⟨v', w', hr, ?_, only_trans (World.grownBy_alloc wr _ _) h3, by simpa using h5⟩
 unfold Ow
 rw [List.length_append, flat_append, flat_one]
 exact h2
theorem wpList_pushB {P : Program} {ops : Array Oper} {rest : List Oper} {o : Oper} {a : Act} {Q : Exit → Act → World → Prop} (hgd : o.guard = none) (s y : Operand) (t : TypeId)
  (ho : o.op = .call { callee := .builtin .append, args := #[s, y], argTypes := #[t, t] })
  {e : TypeId} {i : TypeInfo} {z : Value} {by_ : Nat} (ht : P.underlying t = some (.slice e)) (hi : P.info? e = some i) (hz : i.zero = some z)
  (hsize : i.size = k) (hby : i.bytes = by_) (hzs : z.cells.size = k) (h0 : 0 < k) (hk : ∀ x, (enc x).length = k) (h1 : ∀ x, ∀ u ∈ enc x, u.oneCell' = true) (wr : World) (B : Nat) (v : Value) (d : List α) (x : α) (cs : Array Value) (hcs : cs.toList = enc x)
  (hown : Ow e enc k wr B v d) (hs : a.eval s = v) (hy : a.eval y = .slice (some ⟨wr.heap.size, 0, none⟩) 1 1)
  (hlen : d.length + 1 ≤ 1000000000) (hb8 : by_ ≤ 256) (hB : B ≤ wr.heap.size)
  (h : ∀ v' w', Ow e enc k w' B v' (d ++ [x]) → (wr.grownBy w' v.ownBlock ∧ (v'.ownBlock = v.ownBlock ∨ v'.ownBlock = some (wr.heap.size + 1))) → wpList P ops Q rest (a.put o.dst v') w') :
  wpList P ops Q (o :: rest) a (wr.alloc (.cells cs e)) :=
 wpList_plain hgd fun _ hK => by
  obtain ⟨v', w', hr, h2, h3⟩ := run_pushB (P := P) ht hi hz hsize hby hzs h0 hk h1 o.type wr B v d x cs hcs hown hlen hb8 hB
  unfold Oper.wp execOp
  simp only [ho, resolve, invoke, builtin, Sem.run_bind, Sem.run_pure, Result.andThen_ok, List.map_toArray, List.map_cons, List.map_nil, hs, hy, hr]
  exact hK _ _ (h v' w' h2 h3)
end
theorem Pq.off {α : Type} {T : TypeId} {enc : α → List Value} {k B g : Nat} {W W' : World} {v : Value} {d : List α} {p : Px} (h : Pq W g p) (ho : Ow T enc k W B v d) (hT : T ≠ 25) (hg : W.grownBy W' v.ownBlock) : Pq W' g p := by
 refine (hg.block g h.lt (fun he => ?_)).trans h
 rcases ho.offT h hT with e | e
 ·rw [e] at he; cases he
 ·exact e he.symm
theorem Pq.oth {W : World} {g h : Nat} {p : Px} (z : Pq W h p) (hne : h ≠ g) (j : Nat) (a : Value) : Pq (W.setCell ⟨g, j, none⟩ a) h p := (Below.heap_setCell _ _ a h hne).trans z
theorem Pq.setR {W : World} {g : Nat} {p : Px} (h : Pq W g p) (R : Sl) (rows : List Wx) : Pq (W.setCell ⟨g, 2, none⟩ (sv R)) g ⟨p.nm, p.ob, R, rows, p.V, p.vars⟩ := heap_setCell_same W g 2 _ _ _ h
theorem Pq.setV {W : World} {g : Nat} {p : Px} (h : Pq W g p) (V : Sl) (vars : List Ux) : Pq (W.setCell ⟨g, 3, none⟩ (sv V)) g ⟨p.nm, p.ob, p.R, p.rows, V, vars⟩ := heap_setCell_same W g 3 _ _ _ h
theorem Pq.fz {W : World} {g : Nat} {p : Px} (h : Pq W g p) (j : Nat) : W.frozen? ⟨g, j, none⟩ = false := frozen_of_row W g j _ _ h
theorem pret {fn : Func} {p : Tmp} (h : fn.results = #[.cell p 25]) (tmps : Array Value) (w : World) (g : Nat) (cs : Array Value) (hs : cs.size = 4)
  (hp : tmps.getD p undef = .pointer (some ⟨g, 0, none⟩)) (hg : w.heap[g]? = some (.cells cs 25 (0, 0))) : (results fn tmps).run Tryz.prog w = .ok (.agg cs) w :=
 results_cell_row h tmps w g 25 cs (0, 0) _ hp hg Tryz.underlying25 rfl (by rw [hs]; kernel_rfl)
def p0x : Px := ⟨⟨#[]⟩, ⟨#[]⟩, (none, 0, 0), [], (none, 0, 0), []⟩
def PcRet (w : World) (p : Px) (ts : List Wt) (us : List Ut) (L : Nat) (e : Ending) (w' : World) : Prop :=
 ∃ p' : Px, e = .returned (px p') ∧ p'.nm = p.nm ∧ p'.ob = p.ob ∧ Wwo w' w.heap.size (sv p'.R) p'.rows ts L ∧ Uwo w' w.heap.size (sv p'.V) p'.vars us L ∧ Below w.heap.size w w'
theorem take_snocX {α : Type} {l : List α} {k : Nat} {x : α} (h : l[k]? = some x) : l.take (k + 1) = l.take k ++ [x] := by rw [List.take_add_one, h]; rfl
set_option maxHeartbeats 32000000 in
theorem pcopy_w {w : World} {p : Px} {ts : List Wt} {us : List Ut} {L : Nat} (hp : Wwl w (sv p.R) p.rows ts L) (hu : Uwl w (sv p.V) p.vars us L) (hk : PsLen p) (hL : L ≤ 17592186044000) :
  Calls Tryz.prog 6 #[px p] w (PcRet w p ts us L) := by
 obtain ⟨i0, hi0, hz0, hz1, hz2⟩ := info_parts info_wx
 obtain ⟨j0, hj0, hy0, hy1, hy2⟩ := info_parts info_ux
 obtain ⟨nm, ob, ⟨RA, rn, rc⟩, rows, ⟨VA, vn, vc⟩, vars⟩ := p
 obtain ⟨RA', rc', er, hr1, hr2, hr3⟩ := id hp.1
 obtain ⟨VA', vc', ev, hc1, hc2, hc3⟩ := id hu.1
 dsimp only at er ev hc1 hc2 hr1 hr2
 injection er with e1 e2 e3
 subst e1 e2 e3
 injection ev with e1 e2 e3
 subst e1 e2 e3
 obtain ⟨n, hlen⟩ : ∃ n, n = vars.length := ⟨_, rfl⟩
 obtain ⟨m, hlr⟩ : ∃ m, m = rows.length := ⟨_, rfl⟩
 have HN := hide hlen
 have HM := hide hlr
 have KN := hide (show m ≤ 70 ∧ n ≤ 50 from ⟨by rw [hlr]; exact hk.1, by rw [hlen]; exact hk.2.1⟩)
 have HK := hide (show ∀ r ∈ rows, r.d.length ≤ 30 from hk.2.2)
 dsimp only at hp hu
 rw [← hlen] at hu hc1 ⊢
 rw [← hlr] at hp hr1 ⊢
 have HP := hide hp
 have HU := hide hu
 unfold maxLen at hc2 hr2
 have b2 : Below w.heap.size w (((w.alloc (.cells #[.string nm, .string ob, .slice RA m rc, .slice VA n vc] 25)).alloc (.cells #[.string ⟨#[]⟩, .string ⟨#[]⟩, .slice none 0 0, .slice none 0 0] 25)).alloc (.cells #[.string nm, .string ob, .slice none 0 0, .slice none 0 0] 25)) := (((Below.refl _ _).alloc (Nat.le_refl _) _).alloc (by simp) _).alloc (by simp; omega) _
 have PQ0 := hide (show Pq (w.alloc (.cells #[.string nm, .string ob, .slice RA m rc, .slice VA n vc] 25)) w.heap.size ⟨nm, ob, (RA, m, rc), rows, (VA, n, vc), vars⟩ from heap_alloc_new w _)
 have PQ := hide ((PQ0.out.step (alloc_below _ (.cells #[.string ⟨#[]⟩, .string ⟨#[]⟩, .slice none 0 0, .slice none 0 0] 25))).step (alloc_below _ (.cells #[.string nm, .string ob, .slice none 0 0, .slice none 0 0] 25)))
 have PZ := hide (show Pq (((w.alloc (.cells #[.string nm, .string ob, .slice RA m rc, .slice VA n vc] 25)).alloc (.cells #[.string ⟨#[]⟩, .string ⟨#[]⟩, .slice none 0 0, .slice none 0 0] 25)).alloc (.cells #[.string nm, .string ob, .slice none 0 0, .slice none 0 0] 25)) (w.heap.size + 1) p0x from by
  have h := heap_alloc_new (w.alloc (.cells #[.string nm, .string ob, .slice RA m rc, .slice VA n vc] 25)) (.cells #[.string ⟨#[]⟩, .string ⟨#[]⟩, .slice none 0 0, .slice none 0 0] 25)
  rw [show (w.alloc (.cells #[.string nm, .string ob, .slice RA m rc, .slice VA n vc] 25)).heap.size = w.heap.size + 1 by simp] at h
  exact Pq.step (p := p0x) h (alloc_below _ _))
 have PO := hide (show Pq (((w.alloc (.cells #[.string nm, .string ob, .slice RA m rc, .slice VA n vc] 25)).alloc (.cells #[.string ⟨#[]⟩, .string ⟨#[]⟩, .slice none 0 0, .slice none 0 0] 25)).alloc (.cells #[.string nm, .string ob, .slice none 0 0, .slice none 0 0] 25)) (w.heap.size + 2) ⟨nm, ob, (none, 0, 0), [], (none, 0, 0), []⟩ from by
  have h := heap_alloc_new ((w.alloc (.cells #[.string nm, .string ob, .slice RA m rc, .slice VA n vc] 25)).alloc (.cells #[.string ⟨#[]⟩, .string ⟨#[]⟩, .slice none 0 0, .slice none 0 0] 25)) (.cells #[.string nm, .string ob, .slice none 0 0, .slice none 0 0] 25)
  rw [show ((w.alloc (.cells #[.string nm, .string ob, .slice RA m rc, .slice VA n vc] 25)).alloc (.cells #[.string ⟨#[]⟩, .string ⟨#[]⟩, .slice none 0 0, .slice none 0 0] 25)).heap.size = w.heap.size + 2 by simp] at h
  exact h)
 have B0 := hide b2
 clear hp hu b2 hk hr3 hc3 hlen hlr PQ0
 go_enter Tryz.func6, Tryz.ntmps6
 go_wp2_with fail
 generalize (((w.alloc (.cells #[.string nm, .string ob, .slice RA m rc, .slice VA n vc] 25)).alloc (.cells #[.string ⟨#[]⟩, .string ⟨#[]⟩, .slice none 0 0, .slice none 0 0] 25)).alloc (.cells #[.string nm, .string ob, .slice none 0 0, .slice none 0 0] 25)) = w0 at *
 go_loopw [4] (fun iv wr => ∃ (k : Nat) (v : Sl) (d : List Wx), k ≤ m ∧ iv = .int .i64 (k : Int) ∧ Hid (Below w.heap.size w wr) ∧ Hid (Pq wr w.heap.size ⟨nm, ob, (RA, m, rc), rows, (VA, n, vc), vars⟩) ∧ Hid (Pq wr (w.heap.size + 1) p0x) ∧ Hid (Pq wr (w.heap.size + 2) ⟨nm, ob, v, d, (none, 0, 0), []⟩) ∧ Hid (Wwo wr w.heap.size (sv v) d (ts.take k) L)) (fun iv _ => m - (intOf iv).toNat)
 case atStart => exact ⟨0, (none, 0, 0), [], Nat.zero_le _, rfl, B0, PQ, PZ, PO, hide ⟨Ow.nil _ _ _ _ _, by simp, fun i x t h => by simp at h⟩⟩
 case round =>
  clear PQ PZ PO
  obtain ⟨k, v, d, hk, rfl, B, PQ, PZ, PO, T⟩ := hrel
  by_cases hlt : k < m
  ·obtain ⟨r, hr⟩ := len_of (d := rows) (k := k) (by rw [← HM.out]; exact hlt)
   obtain ⟨t, ht⟩ := zs_at HP.out.2.1 hr
   have DN := hide (HK.out r (List.mem_of_getElem? hr))
   have WW := hide ((HP.out.2.2 k r t hr ht).step B.out)
   have ETS := hide (take_snocX ht)
   have HB := hide B.out.size
   have LD := hide (show d.length ≤ 70 by have h := T.out.2.1; have := KN.out.1; simp at h; omega)
   obtain ⟨b, off, rfl, hb, hc⟩ := (HP.out.1.step B.out).get hr
   have c0 := hc 0 _ rfl
   have c1' := hc 1 _ rfl
   have c2 := hc 2 _ rfl
   have c3 := hc 3 _ rfl
   have c4 := hc 4 _ rfl
   have c5 := hc 5 _ rfl
   have c6 := hc 6 _ rfl
   have c7 := hc 7 _ rfl
   have c8 := hc 8 _ rfl
   have c9 := hc 9 _ rfl
   rw [Nat.add_zero] at c0
   have l0 : (0 : Int) ≤ (k : Int) := by omega
   have l1 : (k : Int) < (m : Int) := by omega
   obtain ⟨p0, p1, p2, p3⟩ := PQ.out.alls
   clear hc hb hr ht
   go_wp2_with fail
   clear c0 c1' c2 c3 c4 c5 c6 c7 c8 c9 p0 p1 p2 p3
   obtain ⟨w3, hw3⟩ : ∃ w3, w3 = wr := ⟨_, rfl⟩
   subst hw3
   go_cut [5] from 25 to 36 (fun s5 wx => s5 = .pointer (some ⟨w3.heap.size, 0, none⟩) ∧ ∃ y1 y2 y3, CpW w.heap.size w3 w3.heap.size L { r with lo := y1, hi := y2, v := y3.1, d := y3.2 } t (some y1) (some y2) (some y3) wx)
   case first =>
    have st := hide (CpW.start (B := w.heap.size) (W0 := w3) (L := L) r t)
    have ZL := hide WW.out.2.1
    have ZH := hide WW.out.2.2.1
    have ZT := hide WW.out.2.2.2
    refine wp_region_held_drew (S := fun W => True) (by kernel_rfl) ?_ (fun hHeld => ?_)
    ·try dsimp only
     all_goals trivial
    generalize (w3.alloc (wbox r)).drew = V0 at *
    refine tk 0 (v := ?_) hHeld ?_ ?_; rotate_left; (focus (intro w hSw; (try dsimp only at hSw); go_simp; (try with_reducible rfl)))
    refine tk 3 (v := ?_) hHeld ?_ ?_; rotate_left; (focus (intro w hSw; (try dsimp only at hSw); go_simp; (try with_reducible rfl)))
    refine tk 6 (v := ?_) hHeld ?_ ?_; rotate_left; (focus (intro w hSw; (try dsimp only at hSw); go_simp; (try with_reducible rfl)))
    try simp only [Act.put, s1, s2, s3, s4, s5, s6]
    refine r3 1 4 7 (fun K hK => ?_) (fun K hK => ?_) (fun K hK => ?_)
    ·obtain ⟨k0, k1, k2, k3, k4, k5, k6, k7, k8, k9⟩ := st.out.all; go_simp; clear k0 k1 k2 k3 k4 k5 k6 k7 k8 k9; refine hK.out _ _ (trivial) (fun hHeld => ?_); clear hK K
     try simp only [Act.put, s1, s2, s3, s4, s5, s6]
     refine r3 2 4 7 (fun K hK => ?_) (fun K hK => ?_) (fun K hK => ?_)
     ·go_simp; go_at_call 26; refine (st.out.c1 HB.out ZL.out hL).mono ?_; rintro e V2 ⟨y1, rfl, h⟩; replace st := hide h; clear h; refine hK.out _ _ (trivial) (fun hHeld => ?_); clear hK K
      try simp only [Act.put, s1, s2, s3, s4, s5, s6]
      refine r2 4 7 (fun K hK => ?_) (fun K hK => ?_)
      ·obtain ⟨k0, k1, k2, k3, k4, k5, k6, k7, k8, k9⟩ := st.out.all; go_simp; clear k0 k1 k2 k3 k4 k5 k6 k7 k8 k9; refine hK.out _ _ (trivial) (fun hHeld => ?_); clear hK K
       try simp only [Act.put, s1, s2, s3, s4, s5, s6]
       refine r2 5 7 (fun K hK => ?_) (fun K hK => ?_)
       ·go_simp; go_at_call 26; refine (st.out.c2 HB.out ZH.out hL).mono ?_; rintro e V4 ⟨y2, rfl, h⟩; replace st := hide h; clear h; refine hK.out _ _ (trivial) (fun hHeld => ?_); clear hK K
        try simp only [Act.put, s1, s2, s3, s4, s5, s6]
        refine r1 7 (fun K hK => ?_)
        obtain ⟨k0, k1, k2, k3, k4, k5, k6, k7, k8, k9⟩ := st.out.all; go_simp; clear k0 k1 k2 k3 k4 k5 k6 k7 k8 k9; refine hK.out _ _ (trivial) (fun hHeld => ?_); clear hK K
        refine tk 9 (v := ?_) hHeld ?_ ?_; rotate_left; (focus (intro w hSw; (try dsimp only at hSw); go_simp; (try with_reducible rfl)))
        try simp only [Act.put, s1, s2, s3, s4, s5, s6]
        refine r1 8 (fun K hK => ?_)
        go_simp; go_at_call 27; refine (st.out.c3 HB.out ZT.out hL (by have := DN.out; omega)).mono ?_; rintro e V6 ⟨⟨⟨A5, n5, c5⟩, d5⟩, rfl, h⟩; replace st := hide h; clear h; refine hK.out _ _ (trivial) (fun hHeld => ?_); clear hK K
        try simp only [Act.put, s1, s2, s3, s4, s5, s6]
        refine r1 10 (fun K hK => ?_)
        obtain ⟨V7, hV, ⟨k0, k1, k2⟩, ⟨f0, f1, f2⟩, h⟩ := st.out.p1; go_simp; (try rw [hV]); replace st := hide h; clear hV k0 k1 k2 f0 f1 f2 h; refine hK.out _ _ (trivial) (fun hHeld => ?_); clear hK K
        refine tk 11 (v := ?_) hHeld ?_ ?_; rotate_left; (focus (intro w hSw; (try dsimp only at hSw); go_simp; (try with_reducible rfl)))
        try simp only [Act.put, s1, s2, s3, s4, s5, s6]
        refine r1 12 (fun K hK => ?_)
        obtain ⟨V8, hV, ⟨k0, k1, k2⟩, ⟨f0, f1, f2⟩, h⟩ := st.out.p2; go_simp; (try rw [hV]); replace st := hide h; clear hV k0 k1 k2 f0 f1 f2 h; refine hK.out _ _ (trivial) (fun hHeld => ?_); clear hK K
        refine tk 13 (v := ?_) hHeld ?_ ?_; rotate_left; (focus (intro w hSw; (try dsimp only at hSw); go_simp; (try with_reducible rfl)))
        try simp only [Act.put, s1, s2, s3, s4, s5, s6]
        refine r1 14 (fun K hK => ?_)
        obtain ⟨V9, hV, k0, f0, h⟩ := st.out.p3; (try dsimp only at k0 hV); go_simp; (try rw [hV]); replace st := hide h; clear hV k0 f0 h; refine hK.out _ _ (trivial) (fun hHeld => ?_); clear hK K
        refine wpAnyH_done (by kernel_rfl) ?_ _
        go_wp2_with fail; go_meet; exact ⟨rfl, y1, y2, ((A5, n5, c5), d5), st.out⟩
       ·obtain ⟨k0, k1, k2, k3, k4, k5, k6, k7, k8, k9⟩ := st.out.all; go_simp; clear k0 k1 k2 k3 k4 k5 k6 k7 k8 k9; refine hK.out _ _ (trivial) (fun hHeld => ?_); clear hK K
        refine tk 9 (v := ?_) hHeld ?_ ?_; rotate_left; (focus (intro w hSw; (try dsimp only at hSw); go_simp; (try with_reducible rfl)))
        try simp only [Act.put, s1, s2, s3, s4, s5, s6]
        refine r1 5 (fun K hK => ?_)
        go_simp; go_at_call 26; refine (st.out.c2 HB.out ZH.out hL).mono ?_; rintro e V5 ⟨y2, rfl, h⟩; replace st := hide h; clear h; refine hK.out _ _ (trivial) (fun hHeld => ?_); clear hK K
        try simp only [Act.put, s1, s2, s3, s4, s5, s6]
        refine r1 8 (fun K hK => ?_)
        go_simp; go_at_call 27; refine (st.out.c3 HB.out ZT.out hL (by have := DN.out; omega)).mono ?_; rintro e V6 ⟨⟨⟨A5, n5, c5⟩, d5⟩, rfl, h⟩; replace st := hide h; clear h; refine hK.out _ _ (trivial) (fun hHeld => ?_); clear hK K
        try simp only [Act.put, s1, s2, s3, s4, s5, s6]
        refine r1 10 (fun K hK => ?_)
        obtain ⟨V7, hV, ⟨k0, k1, k2⟩, ⟨f0, f1, f2⟩, h⟩ := st.out.p1; go_simp; (try rw [hV]); replace st := hide h; clear hV k0 k1 k2 f0 f1 f2 h; refine hK.out _ _ (trivial) (fun hHeld => ?_); clear hK K
        refine tk 11 (v := ?_) hHeld ?_ ?_; rotate_left; (focus (intro w hSw; (try dsimp only at hSw); go_simp; (try with_reducible rfl)))
        try simp only [Act.put, s1, s2, s3, s4, s5, s6]
        refine r1 12 (fun K hK => ?_)
        obtain ⟨V8, hV, ⟨k0, k1, k2⟩, ⟨f0, f1, f2⟩, h⟩ := st.out.p2; go_simp; (try rw [hV]); replace st := hide h; clear hV k0 k1 k2 f0 f1 f2 h; refine hK.out _ _ (trivial) (fun hHeld => ?_); clear hK K
        refine tk 13 (v := ?_) hHeld ?_ ?_; rotate_left; (focus (intro w hSw; (try dsimp only at hSw); go_simp; (try with_reducible rfl)))
        try simp only [Act.put, s1, s2, s3, s4, s5, s6]
        refine r1 14 (fun K hK => ?_)
        obtain ⟨V9, hV, k0, f0, h⟩ := st.out.p3; (try dsimp only at k0 hV); go_simp; (try rw [hV]); replace st := hide h; clear hV k0 f0 h; refine hK.out _ _ (trivial) (fun hHeld => ?_); clear hK K
        refine wpAnyH_done (by kernel_rfl) ?_ _
        go_wp2_with fail; go_meet; exact ⟨rfl, y1, y2, ((A5, n5, c5), d5), st.out⟩
      ·obtain ⟨k0, k1, k2, k3, k4, k5, k6, k7, k8, k9⟩ := st.out.all; go_simp; clear k0 k1 k2 k3 k4 k5 k6 k7 k8 k9; refine hK.out _ _ (trivial) (fun hHeld => ?_); clear hK K
       try simp only [Act.put, s1, s2, s3, s4, s5, s6]
       refine r1 4 (fun K hK => ?_)
       obtain ⟨k0, k1, k2, k3, k4, k5, k6, k7, k8, k9⟩ := st.out.all; go_simp; clear k0 k1 k2 k3 k4 k5 k6 k7 k8 k9; refine hK.out _ _ (trivial) (fun hHeld => ?_); clear hK K
       refine tk 9 (v := ?_) hHeld ?_ ?_; rotate_left; (focus (intro w hSw; (try dsimp only at hSw); go_simp; (try with_reducible rfl)))
       try simp only [Act.put, s1, s2, s3, s4, s5, s6]
       refine r1 5 (fun K hK => ?_)
       go_simp; go_at_call 26; refine (st.out.c2 HB.out ZH.out hL).mono ?_; rintro e V5 ⟨y2, rfl, h⟩; replace st := hide h; clear h; refine hK.out _ _ (trivial) (fun hHeld => ?_); clear hK K
       try simp only [Act.put, s1, s2, s3, s4, s5, s6]
       refine r1 8 (fun K hK => ?_)
       go_simp; go_at_call 27; refine (st.out.c3 HB.out ZT.out hL (by have := DN.out; omega)).mono ?_; rintro e V6 ⟨⟨⟨A5, n5, c5⟩, d5⟩, rfl, h⟩; replace st := hide h; clear h; refine hK.out _ _ (trivial) (fun hHeld => ?_); clear hK K
       try simp only [Act.put, s1, s2, s3, s4, s5, s6]
       refine r1 10 (fun K hK => ?_)
       obtain ⟨V7, hV, ⟨k0, k1, k2⟩, ⟨f0, f1, f2⟩, h⟩ := st.out.p1; go_simp; (try rw [hV]); replace st := hide h; clear hV k0 k1 k2 f0 f1 f2 h; refine hK.out _ _ (trivial) (fun hHeld => ?_); clear hK K
       refine tk 11 (v := ?_) hHeld ?_ ?_; rotate_left; (focus (intro w hSw; (try dsimp only at hSw); go_simp; (try with_reducible rfl)))
       try simp only [Act.put, s1, s2, s3, s4, s5, s6]
       refine r1 12 (fun K hK => ?_)
       obtain ⟨V8, hV, ⟨k0, k1, k2⟩, ⟨f0, f1, f2⟩, h⟩ := st.out.p2; go_simp; (try rw [hV]); replace st := hide h; clear hV k0 k1 k2 f0 f1 f2 h; refine hK.out _ _ (trivial) (fun hHeld => ?_); clear hK K
       refine tk 13 (v := ?_) hHeld ?_ ?_; rotate_left; (focus (intro w hSw; (try dsimp only at hSw); go_simp; (try with_reducible rfl)))
       try simp only [Act.put, s1, s2, s3, s4, s5, s6]
       refine r1 14 (fun K hK => ?_)
       obtain ⟨V9, hV, k0, f0, h⟩ := st.out.p3; (try dsimp only at k0 hV); go_simp; (try rw [hV]); replace st := hide h; clear hV k0 f0 h; refine hK.out _ _ (trivial) (fun hHeld => ?_); clear hK K
       refine wpAnyH_done (by kernel_rfl) ?_ _
       go_wp2_with fail; go_meet; exact ⟨rfl, y1, y2, ((A5, n5, c5), d5), st.out⟩
     ·obtain ⟨k0, k1, k2, k3, k4, k5, k6, k7, k8, k9⟩ := st.out.all; go_simp; clear k0 k1 k2 k3 k4 k5 k6 k7 k8 k9; refine hK.out _ _ (trivial) (fun hHeld => ?_); clear hK K
      try simp only [Act.put, s1, s2, s3, s4, s5, s6]
      refine r2 2 7 (fun K hK => ?_) (fun K hK => ?_)
      ·go_simp; go_at_call 26; refine (st.out.c1 HB.out ZL.out hL).mono ?_; rintro e V3 ⟨y1, rfl, h⟩; replace st := hide h; clear h; refine hK.out _ _ (trivial) (fun hHeld => ?_); clear hK K
       try simp only [Act.put, s1, s2, s3, s4, s5, s6]
       refine r2 5 7 (fun K hK => ?_) (fun K hK => ?_)
       ·go_simp; go_at_call 26; refine (st.out.c2 HB.out ZH.out hL).mono ?_; rintro e V4 ⟨y2, rfl, h⟩; replace st := hide h; clear h; refine hK.out _ _ (trivial) (fun hHeld => ?_); clear hK K
        try simp only [Act.put, s1, s2, s3, s4, s5, s6]
        refine r1 7 (fun K hK => ?_)
        obtain ⟨k0, k1, k2, k3, k4, k5, k6, k7, k8, k9⟩ := st.out.all; go_simp; clear k0 k1 k2 k3 k4 k5 k6 k7 k8 k9; refine hK.out _ _ (trivial) (fun hHeld => ?_); clear hK K
        refine tk 9 (v := ?_) hHeld ?_ ?_; rotate_left; (focus (intro w hSw; (try dsimp only at hSw); go_simp; (try with_reducible rfl)))
        try simp only [Act.put, s1, s2, s3, s4, s5, s6]
        refine r1 8 (fun K hK => ?_)
        go_simp; go_at_call 27; refine (st.out.c3 HB.out ZT.out hL (by have := DN.out; omega)).mono ?_; rintro e V6 ⟨⟨⟨A5, n5, c5⟩, d5⟩, rfl, h⟩; replace st := hide h; clear h; refine hK.out _ _ (trivial) (fun hHeld => ?_); clear hK K
        try simp only [Act.put, s1, s2, s3, s4, s5, s6]
        refine r1 10 (fun K hK => ?_)
        obtain ⟨V7, hV, ⟨k0, k1, k2⟩, ⟨f0, f1, f2⟩, h⟩ := st.out.p1; go_simp; (try rw [hV]); replace st := hide h; clear hV k0 k1 k2 f0 f1 f2 h; refine hK.out _ _ (trivial) (fun hHeld => ?_); clear hK K
        refine tk 11 (v := ?_) hHeld ?_ ?_; rotate_left; (focus (intro w hSw; (try dsimp only at hSw); go_simp; (try with_reducible rfl)))
        try simp only [Act.put, s1, s2, s3, s4, s5, s6]
        refine r1 12 (fun K hK => ?_)
        obtain ⟨V8, hV, ⟨k0, k1, k2⟩, ⟨f0, f1, f2⟩, h⟩ := st.out.p2; go_simp; (try rw [hV]); replace st := hide h; clear hV k0 k1 k2 f0 f1 f2 h; refine hK.out _ _ (trivial) (fun hHeld => ?_); clear hK K
        refine tk 13 (v := ?_) hHeld ?_ ?_; rotate_left; (focus (intro w hSw; (try dsimp only at hSw); go_simp; (try with_reducible rfl)))
        try simp only [Act.put, s1, s2, s3, s4, s5, s6]
        refine r1 14 (fun K hK => ?_)
        obtain ⟨V9, hV, k0, f0, h⟩ := st.out.p3; (try dsimp only at k0 hV); go_simp; (try rw [hV]); replace st := hide h; clear hV k0 f0 h; refine hK.out _ _ (trivial) (fun hHeld => ?_); clear hK K
        refine wpAnyH_done (by kernel_rfl) ?_ _
        go_wp2_with fail; go_meet; exact ⟨rfl, y1, y2, ((A5, n5, c5), d5), st.out⟩
       ·obtain ⟨k0, k1, k2, k3, k4, k5, k6, k7, k8, k9⟩ := st.out.all; go_simp; clear k0 k1 k2 k3 k4 k5 k6 k7 k8 k9; refine hK.out _ _ (trivial) (fun hHeld => ?_); clear hK K
        refine tk 9 (v := ?_) hHeld ?_ ?_; rotate_left; (focus (intro w hSw; (try dsimp only at hSw); go_simp; (try with_reducible rfl)))
        try simp only [Act.put, s1, s2, s3, s4, s5, s6]
        refine r1 5 (fun K hK => ?_)
        go_simp; go_at_call 26; refine (st.out.c2 HB.out ZH.out hL).mono ?_; rintro e V5 ⟨y2, rfl, h⟩; replace st := hide h; clear h; refine hK.out _ _ (trivial) (fun hHeld => ?_); clear hK K
        try simp only [Act.put, s1, s2, s3, s4, s5, s6]
        refine r1 8 (fun K hK => ?_)
        go_simp; go_at_call 27; refine (st.out.c3 HB.out ZT.out hL (by have := DN.out; omega)).mono ?_; rintro e V6 ⟨⟨⟨A5, n5, c5⟩, d5⟩, rfl, h⟩; replace st := hide h; clear h; refine hK.out _ _ (trivial) (fun hHeld => ?_); clear hK K
        try simp only [Act.put, s1, s2, s3, s4, s5, s6]
        refine r1 10 (fun K hK => ?_)
        obtain ⟨V7, hV, ⟨k0, k1, k2⟩, ⟨f0, f1, f2⟩, h⟩ := st.out.p1; go_simp; (try rw [hV]); replace st := hide h; clear hV k0 k1 k2 f0 f1 f2 h; refine hK.out _ _ (trivial) (fun hHeld => ?_); clear hK K
        refine tk 11 (v := ?_) hHeld ?_ ?_; rotate_left; (focus (intro w hSw; (try dsimp only at hSw); go_simp; (try with_reducible rfl)))
        try simp only [Act.put, s1, s2, s3, s4, s5, s6]
        refine r1 12 (fun K hK => ?_)
        obtain ⟨V8, hV, ⟨k0, k1, k2⟩, ⟨f0, f1, f2⟩, h⟩ := st.out.p2; go_simp; (try rw [hV]); replace st := hide h; clear hV k0 k1 k2 f0 f1 f2 h; refine hK.out _ _ (trivial) (fun hHeld => ?_); clear hK K
        refine tk 13 (v := ?_) hHeld ?_ ?_; rotate_left; (focus (intro w hSw; (try dsimp only at hSw); go_simp; (try with_reducible rfl)))
        try simp only [Act.put, s1, s2, s3, s4, s5, s6]
        refine r1 14 (fun K hK => ?_)
        obtain ⟨V9, hV, k0, f0, h⟩ := st.out.p3; (try dsimp only at k0 hV); go_simp; (try rw [hV]); replace st := hide h; clear hV k0 f0 h; refine hK.out _ _ (trivial) (fun hHeld => ?_); clear hK K
        refine wpAnyH_done (by kernel_rfl) ?_ _
        go_wp2_with fail; go_meet; exact ⟨rfl, y1, y2, ((A5, n5, c5), d5), st.out⟩
      ·obtain ⟨k0, k1, k2, k3, k4, k5, k6, k7, k8, k9⟩ := st.out.all; go_simp; clear k0 k1 k2 k3 k4 k5 k6 k7 k8 k9; refine hK.out _ _ (trivial) (fun hHeld => ?_); clear hK K
       try simp only [Act.put, s1, s2, s3, s4, s5, s6]
       refine r1 2 (fun K hK => ?_)
       go_simp; go_at_call 26; refine (st.out.c1 HB.out ZL.out hL).mono ?_; rintro e V4 ⟨y1, rfl, h⟩; replace st := hide h; clear h; refine hK.out _ _ (trivial) (fun hHeld => ?_); clear hK K
       refine tk 9 (v := ?_) hHeld ?_ ?_; rotate_left; (focus (intro w hSw; (try dsimp only at hSw); go_simp; (try with_reducible rfl)))
       try simp only [Act.put, s1, s2, s3, s4, s5, s6]
       refine r1 5 (fun K hK => ?_)
       go_simp; go_at_call 26; refine (st.out.c2 HB.out ZH.out hL).mono ?_; rintro e V5 ⟨y2, rfl, h⟩; replace st := hide h; clear h; refine hK.out _ _ (trivial) (fun hHeld => ?_); clear hK K
       try simp only [Act.put, s1, s2, s3, s4, s5, s6]
       refine r1 8 (fun K hK => ?_)
       go_simp; go_at_call 27; refine (st.out.c3 HB.out ZT.out hL (by have := DN.out; omega)).mono ?_; rintro e V6 ⟨⟨⟨A5, n5, c5⟩, d5⟩, rfl, h⟩; replace st := hide h; clear h; refine hK.out _ _ (trivial) (fun hHeld => ?_); clear hK K
       try simp only [Act.put, s1, s2, s3, s4, s5, s6]
       refine r1 10 (fun K hK => ?_)
       obtain ⟨V7, hV, ⟨k0, k1, k2⟩, ⟨f0, f1, f2⟩, h⟩ := st.out.p1; go_simp; (try rw [hV]); replace st := hide h; clear hV k0 k1 k2 f0 f1 f2 h; refine hK.out _ _ (trivial) (fun hHeld => ?_); clear hK K
       refine tk 11 (v := ?_) hHeld ?_ ?_; rotate_left; (focus (intro w hSw; (try dsimp only at hSw); go_simp; (try with_reducible rfl)))
       try simp only [Act.put, s1, s2, s3, s4, s5, s6]
       refine r1 12 (fun K hK => ?_)
       obtain ⟨V8, hV, ⟨k0, k1, k2⟩, ⟨f0, f1, f2⟩, h⟩ := st.out.p2; go_simp; (try rw [hV]); replace st := hide h; clear hV k0 k1 k2 f0 f1 f2 h; refine hK.out _ _ (trivial) (fun hHeld => ?_); clear hK K
       refine tk 13 (v := ?_) hHeld ?_ ?_; rotate_left; (focus (intro w hSw; (try dsimp only at hSw); go_simp; (try with_reducible rfl)))
       try simp only [Act.put, s1, s2, s3, s4, s5, s6]
       refine r1 14 (fun K hK => ?_)
       obtain ⟨V9, hV, k0, f0, h⟩ := st.out.p3; (try dsimp only at k0 hV); go_simp; (try rw [hV]); replace st := hide h; clear hV k0 f0 h; refine hK.out _ _ (trivial) (fun hHeld => ?_); clear hK K
       refine wpAnyH_done (by kernel_rfl) ?_ _
       go_wp2_with fail; go_meet; exact ⟨rfl, y1, y2, ((A5, n5, c5), d5), st.out⟩
     ·obtain ⟨k0, k1, k2, k3, k4, k5, k6, k7, k8, k9⟩ := st.out.all; go_simp; clear k0 k1 k2 k3 k4 k5 k6 k7 k8 k9; refine hK.out _ _ (trivial) (fun hHeld => ?_); clear hK K
      try simp only [Act.put, s1, s2, s3, s4, s5, s6]
      refine r2 2 4 (fun K hK => ?_) (fun K hK => ?_)
      ·go_simp; go_at_call 26; refine (st.out.c1 HB.out ZL.out hL).mono ?_; rintro e V3 ⟨y1, rfl, h⟩; replace st := hide h; clear h; refine hK.out _ _ (trivial) (fun hHeld => ?_); clear hK K
       try simp only [Act.put, s1, s2, s3, s4, s5, s6]
       refine r1 4 (fun K hK => ?_)
       obtain ⟨k0, k1, k2, k3, k4, k5, k6, k7, k8, k9⟩ := st.out.all; go_simp; clear k0 k1 k2 k3 k4 k5 k6 k7 k8 k9; refine hK.out _ _ (trivial) (fun hHeld => ?_); clear hK K
       refine tk 9 (v := ?_) hHeld ?_ ?_; rotate_left; (focus (intro w hSw; (try dsimp only at hSw); go_simp; (try with_reducible rfl)))
       try simp only [Act.put, s1, s2, s3, s4, s5, s6]
       refine r1 5 (fun K hK => ?_)
       go_simp; go_at_call 26; refine (st.out.c2 HB.out ZH.out hL).mono ?_; rintro e V5 ⟨y2, rfl, h⟩; replace st := hide h; clear h; refine hK.out _ _ (trivial) (fun hHeld => ?_); clear hK K
       try simp only [Act.put, s1, s2, s3, s4, s5, s6]
       refine r1 8 (fun K hK => ?_)
       go_simp; go_at_call 27; refine (st.out.c3 HB.out ZT.out hL (by have := DN.out; omega)).mono ?_; rintro e V6 ⟨⟨⟨A5, n5, c5⟩, d5⟩, rfl, h⟩; replace st := hide h; clear h; refine hK.out _ _ (trivial) (fun hHeld => ?_); clear hK K
       try simp only [Act.put, s1, s2, s3, s4, s5, s6]
       refine r1 10 (fun K hK => ?_)
       obtain ⟨V7, hV, ⟨k0, k1, k2⟩, ⟨f0, f1, f2⟩, h⟩ := st.out.p1; go_simp; (try rw [hV]); replace st := hide h; clear hV k0 k1 k2 f0 f1 f2 h; refine hK.out _ _ (trivial) (fun hHeld => ?_); clear hK K
       refine tk 11 (v := ?_) hHeld ?_ ?_; rotate_left; (focus (intro w hSw; (try dsimp only at hSw); go_simp; (try with_reducible rfl)))
       try simp only [Act.put, s1, s2, s3, s4, s5, s6]
       refine r1 12 (fun K hK => ?_)
       obtain ⟨V8, hV, ⟨k0, k1, k2⟩, ⟨f0, f1, f2⟩, h⟩ := st.out.p2; go_simp; (try rw [hV]); replace st := hide h; clear hV k0 k1 k2 f0 f1 f2 h; refine hK.out _ _ (trivial) (fun hHeld => ?_); clear hK K
       refine tk 13 (v := ?_) hHeld ?_ ?_; rotate_left; (focus (intro w hSw; (try dsimp only at hSw); go_simp; (try with_reducible rfl)))
       try simp only [Act.put, s1, s2, s3, s4, s5, s6]
       refine r1 14 (fun K hK => ?_)
       obtain ⟨V9, hV, k0, f0, h⟩ := st.out.p3; (try dsimp only at k0 hV); go_simp; (try rw [hV]); replace st := hide h; clear hV k0 f0 h; refine hK.out _ _ (trivial) (fun hHeld => ?_); clear hK K
       refine wpAnyH_done (by kernel_rfl) ?_ _
       go_wp2_with fail; go_meet; exact ⟨rfl, y1, y2, ((A5, n5, c5), d5), st.out⟩
      ·obtain ⟨k0, k1, k2, k3, k4, k5, k6, k7, k8, k9⟩ := st.out.all; go_simp; clear k0 k1 k2 k3 k4 k5 k6 k7 k8 k9; refine hK.out _ _ (trivial) (fun hHeld => ?_); clear hK K
       try simp only [Act.put, s1, s2, s3, s4, s5, s6]
       refine r1 2 (fun K hK => ?_)
       go_simp; go_at_call 26; refine (st.out.c1 HB.out ZL.out hL).mono ?_; rintro e V4 ⟨y1, rfl, h⟩; replace st := hide h; clear h; refine hK.out _ _ (trivial) (fun hHeld => ?_); clear hK K
       refine tk 9 (v := ?_) hHeld ?_ ?_; rotate_left; (focus (intro w hSw; (try dsimp only at hSw); go_simp; (try with_reducible rfl)))
       try simp only [Act.put, s1, s2, s3, s4, s5, s6]
       refine r1 5 (fun K hK => ?_)
       go_simp; go_at_call 26; refine (st.out.c2 HB.out ZH.out hL).mono ?_; rintro e V5 ⟨y2, rfl, h⟩; replace st := hide h; clear h; refine hK.out _ _ (trivial) (fun hHeld => ?_); clear hK K
       try simp only [Act.put, s1, s2, s3, s4, s5, s6]
       refine r1 8 (fun K hK => ?_)
       go_simp; go_at_call 27; refine (st.out.c3 HB.out ZT.out hL (by have := DN.out; omega)).mono ?_; rintro e V6 ⟨⟨⟨A5, n5, c5⟩, d5⟩, rfl, h⟩; replace st := hide h; clear h; refine hK.out _ _ (trivial) (fun hHeld => ?_); clear hK K
       try simp only [Act.put, s1, s2, s3, s4, s5, s6]
       refine r1 10 (fun K hK => ?_)
       obtain ⟨V7, hV, ⟨k0, k1, k2⟩, ⟨f0, f1, f2⟩, h⟩ := st.out.p1; go_simp; (try rw [hV]); replace st := hide h; clear hV k0 k1 k2 f0 f1 f2 h; refine hK.out _ _ (trivial) (fun hHeld => ?_); clear hK K
       refine tk 11 (v := ?_) hHeld ?_ ?_; rotate_left; (focus (intro w hSw; (try dsimp only at hSw); go_simp; (try with_reducible rfl)))
       try simp only [Act.put, s1, s2, s3, s4, s5, s6]
       refine r1 12 (fun K hK => ?_)
       obtain ⟨V8, hV, ⟨k0, k1, k2⟩, ⟨f0, f1, f2⟩, h⟩ := st.out.p2; go_simp; (try rw [hV]); replace st := hide h; clear hV k0 k1 k2 f0 f1 f2 h; refine hK.out _ _ (trivial) (fun hHeld => ?_); clear hK K
       refine tk 13 (v := ?_) hHeld ?_ ?_; rotate_left; (focus (intro w hSw; (try dsimp only at hSw); go_simp; (try with_reducible rfl)))
       try simp only [Act.put, s1, s2, s3, s4, s5, s6]
       refine r1 14 (fun K hK => ?_)
       obtain ⟨V9, hV, k0, f0, h⟩ := st.out.p3; (try dsimp only at k0 hV); go_simp; (try rw [hV]); replace st := hide h; clear hV k0 f0 h; refine hK.out _ _ (trivial) (fun hHeld => ?_); clear hK K
       refine wpAnyH_done (by kernel_rfl) ?_ _
       go_wp2_with fail; go_meet; exact ⟨rfl, y1, y2, ((A5, n5, c5), d5), st.out⟩
    ·obtain ⟨k0, k1, k2, k3, k4, k5, k6, k7, k8, k9⟩ := st.out.all; go_simp; clear k0 k1 k2 k3 k4 k5 k6 k7 k8 k9; refine hK.out _ _ (trivial) (fun hHeld => ?_); clear hK K
     try simp only [Act.put, s1, s2, s3, s4, s5, s6]
     refine r2 1 7 (fun K hK => ?_) (fun K hK => ?_)
     ·obtain ⟨k0, k1, k2, k3, k4, k5, k6, k7, k8, k9⟩ := st.out.all; go_simp; clear k0 k1 k2 k3 k4 k5 k6 k7 k8 k9; refine hK.out _ _ (trivial) (fun hHeld => ?_); clear hK K
      try simp only [Act.put, s1, s2, s3, s4, s5, s6]
      refine r2 2 7 (fun K hK => ?_) (fun K hK => ?_)
      ·go_simp; go_at_call 26; refine (st.out.c1 HB.out ZL.out hL).mono ?_; rintro e V3 ⟨y1, rfl, h⟩; replace st := hide h; clear h; refine hK.out _ _ (trivial) (fun hHeld => ?_); clear hK K
       try simp only [Act.put, s1, s2, s3, s4, s5, s6]
       refine r2 5 7 (fun K hK => ?_) (fun K hK => ?_)
       ·go_simp; go_at_call 26; refine (st.out.c2 HB.out ZH.out hL).mono ?_; rintro e V4 ⟨y2, rfl, h⟩; replace st := hide h; clear h; refine hK.out _ _ (trivial) (fun hHeld => ?_); clear hK K
        try simp only [Act.put, s1, s2, s3, s4, s5, s6]
        refine r1 7 (fun K hK => ?_)
        obtain ⟨k0, k1, k2, k3, k4, k5, k6, k7, k8, k9⟩ := st.out.all; go_simp; clear k0 k1 k2 k3 k4 k5 k6 k7 k8 k9; refine hK.out _ _ (trivial) (fun hHeld => ?_); clear hK K
        refine tk 9 (v := ?_) hHeld ?_ ?_; rotate_left; (focus (intro w hSw; (try dsimp only at hSw); go_simp; (try with_reducible rfl)))
        try simp only [Act.put, s1, s2, s3, s4, s5, s6]
        refine r1 8 (fun K hK => ?_)
        go_simp; go_at_call 27; refine (st.out.c3 HB.out ZT.out hL (by have := DN.out; omega)).mono ?_; rintro e V6 ⟨⟨⟨A5, n5, c5⟩, d5⟩, rfl, h⟩; replace st := hide h; clear h; refine hK.out _ _ (trivial) (fun hHeld => ?_); clear hK K
        try simp only [Act.put, s1, s2, s3, s4, s5, s6]
        refine r1 10 (fun K hK => ?_)
        obtain ⟨V7, hV, ⟨k0, k1, k2⟩, ⟨f0, f1, f2⟩, h⟩ := st.out.p1; go_simp; (try rw [hV]); replace st := hide h; clear hV k0 k1 k2 f0 f1 f2 h; refine hK.out _ _ (trivial) (fun hHeld => ?_); clear hK K
        refine tk 11 (v := ?_) hHeld ?_ ?_; rotate_left; (focus (intro w hSw; (try dsimp only at hSw); go_simp; (try with_reducible rfl)))
        try simp only [Act.put, s1, s2, s3, s4, s5, s6]
        refine r1 12 (fun K hK => ?_)
        obtain ⟨V8, hV, ⟨k0, k1, k2⟩, ⟨f0, f1, f2⟩, h⟩ := st.out.p2; go_simp; (try rw [hV]); replace st := hide h; clear hV k0 k1 k2 f0 f1 f2 h; refine hK.out _ _ (trivial) (fun hHeld => ?_); clear hK K
        refine tk 13 (v := ?_) hHeld ?_ ?_; rotate_left; (focus (intro w hSw; (try dsimp only at hSw); go_simp; (try with_reducible rfl)))
        try simp only [Act.put, s1, s2, s3, s4, s5, s6]
        refine r1 14 (fun K hK => ?_)
        obtain ⟨V9, hV, k0, f0, h⟩ := st.out.p3; (try dsimp only at k0 hV); go_simp; (try rw [hV]); replace st := hide h; clear hV k0 f0 h; refine hK.out _ _ (trivial) (fun hHeld => ?_); clear hK K
        refine wpAnyH_done (by kernel_rfl) ?_ _
        go_wp2_with fail; go_meet; exact ⟨rfl, y1, y2, ((A5, n5, c5), d5), st.out⟩
       ·obtain ⟨k0, k1, k2, k3, k4, k5, k6, k7, k8, k9⟩ := st.out.all; go_simp; clear k0 k1 k2 k3 k4 k5 k6 k7 k8 k9; refine hK.out _ _ (trivial) (fun hHeld => ?_); clear hK K
        refine tk 9 (v := ?_) hHeld ?_ ?_; rotate_left; (focus (intro w hSw; (try dsimp only at hSw); go_simp; (try with_reducible rfl)))
        try simp only [Act.put, s1, s2, s3, s4, s5, s6]
        refine r1 5 (fun K hK => ?_)
        go_simp; go_at_call 26; refine (st.out.c2 HB.out ZH.out hL).mono ?_; rintro e V5 ⟨y2, rfl, h⟩; replace st := hide h; clear h; refine hK.out _ _ (trivial) (fun hHeld => ?_); clear hK K
        try simp only [Act.put, s1, s2, s3, s4, s5, s6]
        refine r1 8 (fun K hK => ?_)
        go_simp; go_at_call 27; refine (st.out.c3 HB.out ZT.out hL (by have := DN.out; omega)).mono ?_; rintro e V6 ⟨⟨⟨A5, n5, c5⟩, d5⟩, rfl, h⟩; replace st := hide h; clear h; refine hK.out _ _ (trivial) (fun hHeld => ?_); clear hK K
        try simp only [Act.put, s1, s2, s3, s4, s5, s6]
        refine r1 10 (fun K hK => ?_)
        obtain ⟨V7, hV, ⟨k0, k1, k2⟩, ⟨f0, f1, f2⟩, h⟩ := st.out.p1; go_simp; (try rw [hV]); replace st := hide h; clear hV k0 k1 k2 f0 f1 f2 h; refine hK.out _ _ (trivial) (fun hHeld => ?_); clear hK K
        refine tk 11 (v := ?_) hHeld ?_ ?_; rotate_left; (focus (intro w hSw; (try dsimp only at hSw); go_simp; (try with_reducible rfl)))
        try simp only [Act.put, s1, s2, s3, s4, s5, s6]
        refine r1 12 (fun K hK => ?_)
        obtain ⟨V8, hV, ⟨k0, k1, k2⟩, ⟨f0, f1, f2⟩, h⟩ := st.out.p2; go_simp; (try rw [hV]); replace st := hide h; clear hV k0 k1 k2 f0 f1 f2 h; refine hK.out _ _ (trivial) (fun hHeld => ?_); clear hK K
        refine tk 13 (v := ?_) hHeld ?_ ?_; rotate_left; (focus (intro w hSw; (try dsimp only at hSw); go_simp; (try with_reducible rfl)))
        try simp only [Act.put, s1, s2, s3, s4, s5, s6]
        refine r1 14 (fun K hK => ?_)
        obtain ⟨V9, hV, k0, f0, h⟩ := st.out.p3; (try dsimp only at k0 hV); go_simp; (try rw [hV]); replace st := hide h; clear hV k0 f0 h; refine hK.out _ _ (trivial) (fun hHeld => ?_); clear hK K
        refine wpAnyH_done (by kernel_rfl) ?_ _
        go_wp2_with fail; go_meet; exact ⟨rfl, y1, y2, ((A5, n5, c5), d5), st.out⟩
      ·obtain ⟨k0, k1, k2, k3, k4, k5, k6, k7, k8, k9⟩ := st.out.all; go_simp; clear k0 k1 k2 k3 k4 k5 k6 k7 k8 k9; refine hK.out _ _ (trivial) (fun hHeld => ?_); clear hK K
       try simp only [Act.put, s1, s2, s3, s4, s5, s6]
       refine r1 2 (fun K hK => ?_)
       go_simp; go_at_call 26; refine (st.out.c1 HB.out ZL.out hL).mono ?_; rintro e V4 ⟨y1, rfl, h⟩; replace st := hide h; clear h; refine hK.out _ _ (trivial) (fun hHeld => ?_); clear hK K
       refine tk 9 (v := ?_) hHeld ?_ ?_; rotate_left; (focus (intro w hSw; (try dsimp only at hSw); go_simp; (try with_reducible rfl)))
       try simp only [Act.put, s1, s2, s3, s4, s5, s6]
       refine r1 5 (fun K hK => ?_)
       go_simp; go_at_call 26; refine (st.out.c2 HB.out ZH.out hL).mono ?_; rintro e V5 ⟨y2, rfl, h⟩; replace st := hide h; clear h; refine hK.out _ _ (trivial) (fun hHeld => ?_); clear hK K
       try simp only [Act.put, s1, s2, s3, s4, s5, s6]
       refine r1 8 (fun K hK => ?_)
       go_simp; go_at_call 27; refine (st.out.c3 HB.out ZT.out hL (by have := DN.out; omega)).mono ?_; rintro e V6 ⟨⟨⟨A5, n5, c5⟩, d5⟩, rfl, h⟩; replace st := hide h; clear h; refine hK.out _ _ (trivial) (fun hHeld => ?_); clear hK K
       try simp only [Act.put, s1, s2, s3, s4, s5, s6]
       refine r1 10 (fun K hK => ?_)
       obtain ⟨V7, hV, ⟨k0, k1, k2⟩, ⟨f0, f1, f2⟩, h⟩ := st.out.p1; go_simp; (try rw [hV]); replace st := hide h; clear hV k0 k1 k2 f0 f1 f2 h; refine hK.out _ _ (trivial) (fun hHeld => ?_); clear hK K
       refine tk 11 (v := ?_) hHeld ?_ ?_; rotate_left; (focus (intro w hSw; (try dsimp only at hSw); go_simp; (try with_reducible rfl)))
       try simp only [Act.put, s1, s2, s3, s4, s5, s6]
       refine r1 12 (fun K hK => ?_)
       obtain ⟨V8, hV, ⟨k0, k1, k2⟩, ⟨f0, f1, f2⟩, h⟩ := st.out.p2; go_simp; (try rw [hV]); replace st := hide h; clear hV k0 k1 k2 f0 f1 f2 h; refine hK.out _ _ (trivial) (fun hHeld => ?_); clear hK K
       refine tk 13 (v := ?_) hHeld ?_ ?_; rotate_left; (focus (intro w hSw; (try dsimp only at hSw); go_simp; (try with_reducible rfl)))
       try simp only [Act.put, s1, s2, s3, s4, s5, s6]
       refine r1 14 (fun K hK => ?_)
       obtain ⟨V9, hV, k0, f0, h⟩ := st.out.p3; (try dsimp only at k0 hV); go_simp; (try rw [hV]); replace st := hide h; clear hV k0 f0 h; refine hK.out _ _ (trivial) (fun hHeld => ?_); clear hK K
       refine wpAnyH_done (by kernel_rfl) ?_ _
       go_wp2_with fail; go_meet; exact ⟨rfl, y1, y2, ((A5, n5, c5), d5), st.out⟩
     ·obtain ⟨k0, k1, k2, k3, k4, k5, k6, k7, k8, k9⟩ := st.out.all; go_simp; clear k0 k1 k2 k3 k4 k5 k6 k7 k8 k9; refine hK.out _ _ (trivial) (fun hHeld => ?_); clear hK K
      try simp only [Act.put, s1, s2, s3, s4, s5, s6]
      refine r1 1 (fun K hK => ?_)
      obtain ⟨k0, k1, k2, k3, k4, k5, k6, k7, k8, k9⟩ := st.out.all; go_simp; clear k0 k1 k2 k3 k4 k5 k6 k7 k8 k9; refine hK.out _ _ (trivial) (fun hHeld => ?_); clear hK K
      try simp only [Act.put, s1, s2, s3, s4, s5, s6]
      refine r1 2 (fun K hK => ?_)
      go_simp; go_at_call 26; refine (st.out.c1 HB.out ZL.out hL).mono ?_; rintro e V4 ⟨y1, rfl, h⟩; replace st := hide h; clear h; refine hK.out _ _ (trivial) (fun hHeld => ?_); clear hK K
      refine tk 9 (v := ?_) hHeld ?_ ?_; rotate_left; (focus (intro w hSw; (try dsimp only at hSw); go_simp; (try with_reducible rfl)))
      try simp only [Act.put, s1, s2, s3, s4, s5, s6]
      refine r1 5 (fun K hK => ?_)
      go_simp; go_at_call 26; refine (st.out.c2 HB.out ZH.out hL).mono ?_; rintro e V5 ⟨y2, rfl, h⟩; replace st := hide h; clear h; refine hK.out _ _ (trivial) (fun hHeld => ?_); clear hK K
      try simp only [Act.put, s1, s2, s3, s4, s5, s6]
      refine r1 8 (fun K hK => ?_)
      go_simp; go_at_call 27; refine (st.out.c3 HB.out ZT.out hL (by have := DN.out; omega)).mono ?_; rintro e V6 ⟨⟨⟨A5, n5, c5⟩, d5⟩, rfl, h⟩; replace st := hide h; clear h; refine hK.out _ _ (trivial) (fun hHeld => ?_); clear hK K
      try simp only [Act.put, s1, s2, s3, s4, s5, s6]
      refine r1 10 (fun K hK => ?_)
      obtain ⟨V7, hV, ⟨k0, k1, k2⟩, ⟨f0, f1, f2⟩, h⟩ := st.out.p1; go_simp; (try rw [hV]); replace st := hide h; clear hV k0 k1 k2 f0 f1 f2 h; refine hK.out _ _ (trivial) (fun hHeld => ?_); clear hK K
      refine tk 11 (v := ?_) hHeld ?_ ?_; rotate_left; (focus (intro w hSw; (try dsimp only at hSw); go_simp; (try with_reducible rfl)))
      try simp only [Act.put, s1, s2, s3, s4, s5, s6]
      refine r1 12 (fun K hK => ?_)
      obtain ⟨V8, hV, ⟨k0, k1, k2⟩, ⟨f0, f1, f2⟩, h⟩ := st.out.p2; go_simp; (try rw [hV]); replace st := hide h; clear hV k0 k1 k2 f0 f1 f2 h; refine hK.out _ _ (trivial) (fun hHeld => ?_); clear hK K
      refine tk 13 (v := ?_) hHeld ?_ ?_; rotate_left; (focus (intro w hSw; (try dsimp only at hSw); go_simp; (try with_reducible rfl)))
      try simp only [Act.put, s1, s2, s3, s4, s5, s6]
      refine r1 14 (fun K hK => ?_)
      obtain ⟨V9, hV, k0, f0, h⟩ := st.out.p3; (try dsimp only at k0 hV); go_simp; (try rw [hV]); replace st := hide h; clear hV k0 f0 h; refine hK.out _ _ (trivial) (fun hHeld => ?_); clear hK K
      refine wpAnyH_done (by kernel_rfl) ?_ _
      go_wp2_with fail; go_meet; exact ⟨rfl, y1, y2, ((A5, n5, c5), d5), st.out⟩
    ·obtain ⟨k0, k1, k2, k3, k4, k5, k6, k7, k8, k9⟩ := st.out.all; go_simp; clear k0 k1 k2 k3 k4 k5 k6 k7 k8 k9; refine hK.out _ _ (trivial) (fun hHeld => ?_); clear hK K
     try simp only [Act.put, s1, s2, s3, s4, s5, s6]
     refine r2 1 4 (fun K hK => ?_) (fun K hK => ?_)
     ·obtain ⟨k0, k1, k2, k3, k4, k5, k6, k7, k8, k9⟩ := st.out.all; go_simp; clear k0 k1 k2 k3 k4 k5 k6 k7 k8 k9; refine hK.out _ _ (trivial) (fun hHeld => ?_); clear hK K
      try simp only [Act.put, s1, s2, s3, s4, s5, s6]
      refine r2 2 4 (fun K hK => ?_) (fun K hK => ?_)
      ·go_simp; go_at_call 26; refine (st.out.c1 HB.out ZL.out hL).mono ?_; rintro e V3 ⟨y1, rfl, h⟩; replace st := hide h; clear h; refine hK.out _ _ (trivial) (fun hHeld => ?_); clear hK K
       try simp only [Act.put, s1, s2, s3, s4, s5, s6]
       refine r1 4 (fun K hK => ?_)
       obtain ⟨k0, k1, k2, k3, k4, k5, k6, k7, k8, k9⟩ := st.out.all; go_simp; clear k0 k1 k2 k3 k4 k5 k6 k7 k8 k9; refine hK.out _ _ (trivial) (fun hHeld => ?_); clear hK K
       refine tk 9 (v := ?_) hHeld ?_ ?_; rotate_left; (focus (intro w hSw; (try dsimp only at hSw); go_simp; (try with_reducible rfl)))
       try simp only [Act.put, s1, s2, s3, s4, s5, s6]
       refine r1 5 (fun K hK => ?_)
       go_simp; go_at_call 26; refine (st.out.c2 HB.out ZH.out hL).mono ?_; rintro e V5 ⟨y2, rfl, h⟩; replace st := hide h; clear h; refine hK.out _ _ (trivial) (fun hHeld => ?_); clear hK K
       try simp only [Act.put, s1, s2, s3, s4, s5, s6]
       refine r1 8 (fun K hK => ?_)
       go_simp; go_at_call 27; refine (st.out.c3 HB.out ZT.out hL (by have := DN.out; omega)).mono ?_; rintro e V6 ⟨⟨⟨A5, n5, c5⟩, d5⟩, rfl, h⟩; replace st := hide h; clear h; refine hK.out _ _ (trivial) (fun hHeld => ?_); clear hK K
       try simp only [Act.put, s1, s2, s3, s4, s5, s6]
       refine r1 10 (fun K hK => ?_)
       obtain ⟨V7, hV, ⟨k0, k1, k2⟩, ⟨f0, f1, f2⟩, h⟩ := st.out.p1; go_simp; (try rw [hV]); replace st := hide h; clear hV k0 k1 k2 f0 f1 f2 h; refine hK.out _ _ (trivial) (fun hHeld => ?_); clear hK K
       refine tk 11 (v := ?_) hHeld ?_ ?_; rotate_left; (focus (intro w hSw; (try dsimp only at hSw); go_simp; (try with_reducible rfl)))
       try simp only [Act.put, s1, s2, s3, s4, s5, s6]
       refine r1 12 (fun K hK => ?_)
       obtain ⟨V8, hV, ⟨k0, k1, k2⟩, ⟨f0, f1, f2⟩, h⟩ := st.out.p2; go_simp; (try rw [hV]); replace st := hide h; clear hV k0 k1 k2 f0 f1 f2 h; refine hK.out _ _ (trivial) (fun hHeld => ?_); clear hK K
       refine tk 13 (v := ?_) hHeld ?_ ?_; rotate_left; (focus (intro w hSw; (try dsimp only at hSw); go_simp; (try with_reducible rfl)))
       try simp only [Act.put, s1, s2, s3, s4, s5, s6]
       refine r1 14 (fun K hK => ?_)
       obtain ⟨V9, hV, k0, f0, h⟩ := st.out.p3; (try dsimp only at k0 hV); go_simp; (try rw [hV]); replace st := hide h; clear hV k0 f0 h; refine hK.out _ _ (trivial) (fun hHeld => ?_); clear hK K
       refine wpAnyH_done (by kernel_rfl) ?_ _
       go_wp2_with fail; go_meet; exact ⟨rfl, y1, y2, ((A5, n5, c5), d5), st.out⟩
      ·obtain ⟨k0, k1, k2, k3, k4, k5, k6, k7, k8, k9⟩ := st.out.all; go_simp; clear k0 k1 k2 k3 k4 k5 k6 k7 k8 k9; refine hK.out _ _ (trivial) (fun hHeld => ?_); clear hK K
       try simp only [Act.put, s1, s2, s3, s4, s5, s6]
       refine r1 2 (fun K hK => ?_)
       go_simp; go_at_call 26; refine (st.out.c1 HB.out ZL.out hL).mono ?_; rintro e V4 ⟨y1, rfl, h⟩; replace st := hide h; clear h; refine hK.out _ _ (trivial) (fun hHeld => ?_); clear hK K
       refine tk 9 (v := ?_) hHeld ?_ ?_; rotate_left; (focus (intro w hSw; (try dsimp only at hSw); go_simp; (try with_reducible rfl)))
       try simp only [Act.put, s1, s2, s3, s4, s5, s6]
       refine r1 5 (fun K hK => ?_)
       go_simp; go_at_call 26; refine (st.out.c2 HB.out ZH.out hL).mono ?_; rintro e V5 ⟨y2, rfl, h⟩; replace st := hide h; clear h; refine hK.out _ _ (trivial) (fun hHeld => ?_); clear hK K
       try simp only [Act.put, s1, s2, s3, s4, s5, s6]
       refine r1 8 (fun K hK => ?_)
       go_simp; go_at_call 27; refine (st.out.c3 HB.out ZT.out hL (by have := DN.out; omega)).mono ?_; rintro e V6 ⟨⟨⟨A5, n5, c5⟩, d5⟩, rfl, h⟩; replace st := hide h; clear h; refine hK.out _ _ (trivial) (fun hHeld => ?_); clear hK K
       try simp only [Act.put, s1, s2, s3, s4, s5, s6]
       refine r1 10 (fun K hK => ?_)
       obtain ⟨V7, hV, ⟨k0, k1, k2⟩, ⟨f0, f1, f2⟩, h⟩ := st.out.p1; go_simp; (try rw [hV]); replace st := hide h; clear hV k0 k1 k2 f0 f1 f2 h; refine hK.out _ _ (trivial) (fun hHeld => ?_); clear hK K
       refine tk 11 (v := ?_) hHeld ?_ ?_; rotate_left; (focus (intro w hSw; (try dsimp only at hSw); go_simp; (try with_reducible rfl)))
       try simp only [Act.put, s1, s2, s3, s4, s5, s6]
       refine r1 12 (fun K hK => ?_)
       obtain ⟨V8, hV, ⟨k0, k1, k2⟩, ⟨f0, f1, f2⟩, h⟩ := st.out.p2; go_simp; (try rw [hV]); replace st := hide h; clear hV k0 k1 k2 f0 f1 f2 h; refine hK.out _ _ (trivial) (fun hHeld => ?_); clear hK K
       refine tk 13 (v := ?_) hHeld ?_ ?_; rotate_left; (focus (intro w hSw; (try dsimp only at hSw); go_simp; (try with_reducible rfl)))
       try simp only [Act.put, s1, s2, s3, s4, s5, s6]
       refine r1 14 (fun K hK => ?_)
       obtain ⟨V9, hV, k0, f0, h⟩ := st.out.p3; (try dsimp only at k0 hV); go_simp; (try rw [hV]); replace st := hide h; clear hV k0 f0 h; refine hK.out _ _ (trivial) (fun hHeld => ?_); clear hK K
       refine wpAnyH_done (by kernel_rfl) ?_ _
       go_wp2_with fail; go_meet; exact ⟨rfl, y1, y2, ((A5, n5, c5), d5), st.out⟩
     ·obtain ⟨k0, k1, k2, k3, k4, k5, k6, k7, k8, k9⟩ := st.out.all; go_simp; clear k0 k1 k2 k3 k4 k5 k6 k7 k8 k9; refine hK.out _ _ (trivial) (fun hHeld => ?_); clear hK K
      try simp only [Act.put, s1, s2, s3, s4, s5, s6]
      refine r1 1 (fun K hK => ?_)
      obtain ⟨k0, k1, k2, k3, k4, k5, k6, k7, k8, k9⟩ := st.out.all; go_simp; clear k0 k1 k2 k3 k4 k5 k6 k7 k8 k9; refine hK.out _ _ (trivial) (fun hHeld => ?_); clear hK K
      try simp only [Act.put, s1, s2, s3, s4, s5, s6]
      refine r1 2 (fun K hK => ?_)
      go_simp; go_at_call 26; refine (st.out.c1 HB.out ZL.out hL).mono ?_; rintro e V4 ⟨y1, rfl, h⟩; replace st := hide h; clear h; refine hK.out _ _ (trivial) (fun hHeld => ?_); clear hK K
      refine tk 9 (v := ?_) hHeld ?_ ?_; rotate_left; (focus (intro w hSw; (try dsimp only at hSw); go_simp; (try with_reducible rfl)))
      try simp only [Act.put, s1, s2, s3, s4, s5, s6]
      refine r1 5 (fun K hK => ?_)
      go_simp; go_at_call 26; refine (st.out.c2 HB.out ZH.out hL).mono ?_; rintro e V5 ⟨y2, rfl, h⟩; replace st := hide h; clear h; refine hK.out _ _ (trivial) (fun hHeld => ?_); clear hK K
      try simp only [Act.put, s1, s2, s3, s4, s5, s6]
      refine r1 8 (fun K hK => ?_)
      go_simp; go_at_call 27; refine (st.out.c3 HB.out ZT.out hL (by have := DN.out; omega)).mono ?_; rintro e V6 ⟨⟨⟨A5, n5, c5⟩, d5⟩, rfl, h⟩; replace st := hide h; clear h; refine hK.out _ _ (trivial) (fun hHeld => ?_); clear hK K
      try simp only [Act.put, s1, s2, s3, s4, s5, s6]
      refine r1 10 (fun K hK => ?_)
      obtain ⟨V7, hV, ⟨k0, k1, k2⟩, ⟨f0, f1, f2⟩, h⟩ := st.out.p1; go_simp; (try rw [hV]); replace st := hide h; clear hV k0 k1 k2 f0 f1 f2 h; refine hK.out _ _ (trivial) (fun hHeld => ?_); clear hK K
      refine tk 11 (v := ?_) hHeld ?_ ?_; rotate_left; (focus (intro w hSw; (try dsimp only at hSw); go_simp; (try with_reducible rfl)))
      try simp only [Act.put, s1, s2, s3, s4, s5, s6]
      refine r1 12 (fun K hK => ?_)
      obtain ⟨V8, hV, ⟨k0, k1, k2⟩, ⟨f0, f1, f2⟩, h⟩ := st.out.p2; go_simp; (try rw [hV]); replace st := hide h; clear hV k0 k1 k2 f0 f1 f2 h; refine hK.out _ _ (trivial) (fun hHeld => ?_); clear hK K
      refine tk 13 (v := ?_) hHeld ?_ ?_; rotate_left; (focus (intro w hSw; (try dsimp only at hSw); go_simp; (try with_reducible rfl)))
      try simp only [Act.put, s1, s2, s3, s4, s5, s6]
      refine r1 14 (fun K hK => ?_)
      obtain ⟨V9, hV, k0, f0, h⟩ := st.out.p3; (try dsimp only at k0 hV); go_simp; (try rw [hV]); replace st := hide h; clear hV k0 f0 h; refine hK.out _ _ (trivial) (fun hHeld => ?_); clear hK K
      refine wpAnyH_done (by kernel_rfl) ?_ _
      go_wp2_with fail; go_meet; exact ⟨rfl, y1, y2, ((A5, n5, c5), d5), st.out⟩
   case rest =>
    obtain ⟨rfl, y1, y2, ⟨⟨A5, n5, c5⟩, d5⟩, st⟩ := hcut
    have hb := st.1.1
    have BQ := hide (show Wq wc w3.heap.size ⟨r.nm, r.a, r.b, y1, y2, (A5, n5, c5), d5⟩ from st.1.2.2)
    have WG := hide (show Wwg wc w.heap.size ⟨r.nm, r.a, r.b, y1, y2, (A5, n5, c5), d5⟩ t L from ⟨WW.out.1, st.2.1 _ rfl, st.2.2.1 _ rfl, st.2.2.2 _ rfl⟩)
    replace PQ := hide (PQ.out.step hb)
    replace PZ := hide (PZ.out.step hb)
    replace PO := hide (PO.out.step hb)
    replace T := hide (T.out.step hb)
    replace B := hide (Below.step B.out B.out.size hb)
    clear st hb
    obtain ⟨A1, n1, c1⟩ := v
    obtain ⟨o0, o1, o2, o3⟩ := PO.out.alls
    obtain ⟨q0, q1, q2, q3, q4, q5, q6, q7, q8, q9⟩ := BQ.out.all
    go_wp2_with (at_builtin; (refine wpList_pushB rfl (.tmp 38) (.tmp 40) 22 rfl Tryz.underlying22 hi0 hz0 hz1 hz2 rfl (by omega) ew_len ew_one wc w.heap.size _ d ⟨r.nm, r.a, r.b, y1, y2, (A5, n5, c5), d5⟩ _ rfl T.out.1 rfl rfl (by have := LD.out; omega) (by decide) B.out.size ?_; intro v' w' ho hg; obtain ⟨A9, n9, c9, rfl⟩ := rv_sl (ho.rl ew_len); have PO2 := hide (PO.out.off T.out.1 (by decide) hg.1); have PQ2 := hide ((PQ.out.off T.out.1 (by decide) hg.1).oth (g := w.heap.size + 2) (by omega) 2 (.slice A9 n9 c9)); have PZ2 := hide ((PZ.out.off T.out.1 (by decide) hg.1).oth (g := w.heap.size + 2) (by omega) 2 (.slice A9 n9 c9)); have POF := hide (PO2.out.setR (A9, n9, c9) (d ++ [⟨r.nm, r.a, r.b, y1, y2, (A5, n5, c5), d5⟩])); have TP := hide ((T.out.push ho hg.1 WG.out).box (only_set (p := ⟨w.heap.size + 2, 2, none⟩) (only_refl w' (some (w.heap.size + 2))) rfl (.slice A9 n9 c9)) PO2.out (by decide) (by decide) (by decide)); have BF := hide ((below_own B.out T.out.1 hg.1 B.out.size).setCell (p := ⟨w.heap.size + 2, 2, none⟩) (by show w.heap.size ≤ w.heap.size + 2; omega) (.slice A9 n9 c9)); have s2 := PO2.out.alls.2.2.1; have f2 := PO2.out.fz 2; clear ho hg o0 o1 o2 o3 q0 q1 q2 q3 q4 q5 q6 q7 q8 q9 PQ PZ PO T B))
    rw [← ETS.out] at TP
    exact ⟨⟨k + 1, (A9, n9, c9), d ++ [⟨r.nm, r.a, r.b, y1, y2, (A5, n5, c5), d5⟩], by omega, by go_num, BF, PQ2, PZ2, POF, TP⟩, by simp [intOf]; omega⟩
  ·obtain rfl : k = m := by omega
   have TT := hide (show Wwo wr w.heap.size (sv v) d ts L by have h := T.out; rwa [List.take_of_length_le (by have := HP.out.2.1; have := HM.out; omega)] at h)
   have BB := B
   have PQ9 := PQ
   have PZ9 := PZ
   have PO9 := PO
   clear T B PQ PZ PO
   obtain ⟨p0, p1, p2, p3⟩ := PQ9.out.alls
   go_wp2_with fail
   clear p0 p1 p2 p3
   obtain ⟨wo, hwo⟩ : ∃ wo, wo = wr := ⟨_, rfl⟩
   subst hwo
   go_loopw [6] (fun iv wr => ∃ (q : Nat) (u : Sl) (f : List Ux), q ≤ n ∧ iv = .int .i64 (q : Int) ∧ Hid (Below w.heap.size w wr) ∧ Hid (Pq wr w.heap.size ⟨nm, ob, (RA, k, rc), rows, (VA, n, vc), vars⟩) ∧ Hid (Pq wr (w.heap.size + 1) p0x) ∧ Hid (Pq wr (w.heap.size + 2) ⟨nm, ob, v, d, u, f⟩) ∧ Hid (Wwo wr w.heap.size (sv v) d ts L) ∧ Hid (Uwo wr w.heap.size (sv u) f (us.take q) L)) (fun iv _ => n - (intOf iv).toNat)
   case atStart => exact ⟨0, (none, 0, 0), [], Nat.zero_le _, rfl, BB, PQ9, PZ9, PO9, TT, hide ⟨Ow.nil _ _ _ _ _, by simp, fun i x t h => by simp at h⟩⟩
   case round =>
    clear BB PQ9 PZ9 PO9 TT
    obtain ⟨q, u, f, hq, rfl, B, PQ, PZ, PO, TT, T⟩ := hrel
    by_cases hlt2 : q < n
    ·obtain ⟨x, hx⟩ := len_of (d := vars) (k := q) (by rw [← HN.out]; exact hlt2)
     obtain ⟨t, ht⟩ := zs_at HU.out.2.1 hx
     have WW := hide ((HU.out.2.2 q x t hx ht).step B.out)
     have ETS := hide (take_snocX ht)
     have HB := hide B.out.size
     have LD := hide (show f.length ≤ 50 by have h := T.out.2.1; have := KN.out.2; simp at h; omega)
     obtain ⟨b, off, rfl, hb, hc⟩ := (HU.out.1.step B.out).get hx
     have c0 := hc 0 _ rfl
     have c1' := hc 1 _ rfl
     have c2 := hc 2 _ rfl
     have c3 := hc 3 _ rfl
     have c4 := hc 4 _ rfl
     have c5 := hc 5 _ rfl
     have c6 := hc 6 _ rfl
     have c7 := hc 7 _ rfl
     have c8 := hc 8 _ rfl
     have c9 := hc 9 _ rfl
     have c10 := hc 10 _ rfl
     have c11 := hc 11 _ rfl
     have c12 := hc 12 _ rfl
     rw [Nat.add_zero] at c0
     have l0 : (0 : Int) ≤ (q : Int) := by omega
     have l1 : (q : Int) < (n : Int) := by omega
     obtain ⟨p0, p1, p2, p3⟩ := PQ.out.alls
     clear hc hb hx ht
     go_wp2_with fail
     clear c0 c1' c2 c3 c4 c5 c6 c7 c8 c9 c10 c11 c12 p0 p1 p2 p3
     obtain ⟨w3, hw3⟩ : ∃ w3, w3 = wr := ⟨_, rfl⟩
     subst hw3
     go_cut [7] from 55 to 66 (fun s7 wx => s7 = .pointer (some ⟨w3.heap.size, 0, none⟩) ∧ ∃ y1 y2 y3, CpU w.heap.size w3 w3.heap.size L { x with lo := y1, hi := y2, co := y3 } t (some y1) (some y2) (some y3) wx)
     case first =>
      have st := hide (CpU.start (B := w.heap.size) (W0 := w3) (L := L) x t)
      have ZL := hide WW.out.2.1
      have ZH := hide WW.out.2.2.1
      have ZC := hide WW.out.2.2.2
      refine wp_region_held_drew (S := fun W => True) (by kernel_rfl) ?_ (fun hHeld => ?_)
      ·try dsimp only
       all_goals trivial
      generalize (w3.alloc (ubox x)).drew = V0 at *
      refine tk 0 (v := ?_) hHeld ?_ ?_; rotate_left; (focus (intro w hSw; (try dsimp only at hSw); go_simp; (try with_reducible rfl)))
      refine tk 3 (v := ?_) hHeld ?_ ?_; rotate_left; (focus (intro w hSw; (try dsimp only at hSw); go_simp; (try with_reducible rfl)))
      refine tk 6 (v := ?_) hHeld ?_ ?_; rotate_left; (focus (intro w hSw; (try dsimp only at hSw); go_simp; (try with_reducible rfl)))
      try simp only [Act.put, s1, s2, s3, s4, s5, s6]
      refine r3 1 4 7 (fun K hK => ?_) (fun K hK => ?_) (fun K hK => ?_)
      ·obtain ⟨k0, k1, k2, k3, k4, k5, k6, k7, k8, k9, k10, k11, k12⟩ := st.out.all; go_simp; clear k0 k1 k2 k3 k4 k5 k6 k7 k8 k9 k10 k11 k12; refine hK.out _ _ (trivial) (fun hHeld => ?_); clear hK K
       try simp only [Act.put, s1, s2, s3, s4, s5, s6]
       refine r3 2 4 7 (fun K hK => ?_) (fun K hK => ?_) (fun K hK => ?_)
       ·go_simp; go_at_call 26; refine (st.out.c1 HB.out ZL.out hL).mono ?_; rintro e V2 ⟨y1, rfl, h⟩; replace st := hide h; clear h; refine hK.out _ _ (trivial) (fun hHeld => ?_); clear hK K
        try simp only [Act.put, s1, s2, s3, s4, s5, s6]
        refine r2 4 7 (fun K hK => ?_) (fun K hK => ?_)
        ·obtain ⟨k0, k1, k2, k3, k4, k5, k6, k7, k8, k9, k10, k11, k12⟩ := st.out.all; go_simp; clear k0 k1 k2 k3 k4 k5 k6 k7 k8 k9 k10 k11 k12; refine hK.out _ _ (trivial) (fun hHeld => ?_); clear hK K
         try simp only [Act.put, s1, s2, s3, s4, s5, s6]
         refine r2 5 7 (fun K hK => ?_) (fun K hK => ?_)
         ·go_simp; go_at_call 26; refine (st.out.c2 HB.out ZH.out hL).mono ?_; rintro e V4 ⟨y2, rfl, h⟩; replace st := hide h; clear h; refine hK.out _ _ (trivial) (fun hHeld => ?_); clear hK K
          try simp only [Act.put, s1, s2, s3, s4, s5, s6]
          refine r1 7 (fun K hK => ?_)
          obtain ⟨k0, k1, k2, k3, k4, k5, k6, k7, k8, k9, k10, k11, k12⟩ := st.out.all; go_simp; clear k0 k1 k2 k3 k4 k5 k6 k7 k8 k9 k10 k11 k12; refine hK.out _ _ (trivial) (fun hHeld => ?_); clear hK K
          refine tk 9 (v := ?_) hHeld ?_ ?_; rotate_left; (focus (intro w hSw; (try dsimp only at hSw); go_simp; (try with_reducible rfl)))
          try simp only [Act.put, s1, s2, s3, s4, s5, s6]
          refine r1 8 (fun K hK => ?_)
          go_simp; go_at_call 26; refine (st.out.c3 HB.out ZC.out hL).mono ?_; rintro e V6 ⟨y3, rfl, h⟩; replace st := hide h; clear h; refine hK.out _ _ (trivial) (fun hHeld => ?_); clear hK K
          try simp only [Act.put, s1, s2, s3, s4, s5, s6]
          refine r1 10 (fun K hK => ?_)
          obtain ⟨V7, hV, ⟨k0, k1, k2⟩, ⟨f0, f1, f2⟩, h⟩ := st.out.p1; go_simp; (try rw [hV]); replace st := hide h; clear hV k0 k1 k2 f0 f1 f2 h; refine hK.out _ _ (trivial) (fun hHeld => ?_); clear hK K
          refine tk 11 (v := ?_) hHeld ?_ ?_; rotate_left; (focus (intro w hSw; (try dsimp only at hSw); go_simp; (try with_reducible rfl)))
          try simp only [Act.put, s1, s2, s3, s4, s5, s6]
          refine r1 12 (fun K hK => ?_)
          obtain ⟨V8, hV, ⟨k0, k1, k2⟩, ⟨f0, f1, f2⟩, h⟩ := st.out.p2; go_simp; (try rw [hV]); replace st := hide h; clear hV k0 k1 k2 f0 f1 f2 h; refine hK.out _ _ (trivial) (fun hHeld => ?_); clear hK K
          refine tk 13 (v := ?_) hHeld ?_ ?_; rotate_left; (focus (intro w hSw; (try dsimp only at hSw); go_simp; (try with_reducible rfl)))
          try simp only [Act.put, s1, s2, s3, s4, s5, s6]
          refine r1 14 (fun K hK => ?_)
          obtain ⟨V9, hV, ⟨k0, k1, k2⟩, ⟨f0, f1, f2⟩, h⟩ := st.out.p3; go_simp; (try rw [hV]); replace st := hide h; clear hV k0 k1 k2 f0 f1 f2 h; refine hK.out _ _ (trivial) (fun hHeld => ?_); clear hK K
          refine wpAnyH_done (by kernel_rfl) ?_ _
          go_wp2_with fail; go_meet; exact ⟨rfl, y1, y2, y3, st.out⟩
         ·obtain ⟨k0, k1, k2, k3, k4, k5, k6, k7, k8, k9, k10, k11, k12⟩ := st.out.all; go_simp; clear k0 k1 k2 k3 k4 k5 k6 k7 k8 k9 k10 k11 k12; refine hK.out _ _ (trivial) (fun hHeld => ?_); clear hK K
          refine tk 9 (v := ?_) hHeld ?_ ?_; rotate_left; (focus (intro w hSw; (try dsimp only at hSw); go_simp; (try with_reducible rfl)))
          try simp only [Act.put, s1, s2, s3, s4, s5, s6]
          refine r1 5 (fun K hK => ?_)
          go_simp; go_at_call 26; refine (st.out.c2 HB.out ZH.out hL).mono ?_; rintro e V5 ⟨y2, rfl, h⟩; replace st := hide h; clear h; refine hK.out _ _ (trivial) (fun hHeld => ?_); clear hK K
          try simp only [Act.put, s1, s2, s3, s4, s5, s6]
          refine r1 8 (fun K hK => ?_)
          go_simp; go_at_call 26; refine (st.out.c3 HB.out ZC.out hL).mono ?_; rintro e V6 ⟨y3, rfl, h⟩; replace st := hide h; clear h; refine hK.out _ _ (trivial) (fun hHeld => ?_); clear hK K
          try simp only [Act.put, s1, s2, s3, s4, s5, s6]
          refine r1 10 (fun K hK => ?_)
          obtain ⟨V7, hV, ⟨k0, k1, k2⟩, ⟨f0, f1, f2⟩, h⟩ := st.out.p1; go_simp; (try rw [hV]); replace st := hide h; clear hV k0 k1 k2 f0 f1 f2 h; refine hK.out _ _ (trivial) (fun hHeld => ?_); clear hK K
          refine tk 11 (v := ?_) hHeld ?_ ?_; rotate_left; (focus (intro w hSw; (try dsimp only at hSw); go_simp; (try with_reducible rfl)))
          try simp only [Act.put, s1, s2, s3, s4, s5, s6]
          refine r1 12 (fun K hK => ?_)
          obtain ⟨V8, hV, ⟨k0, k1, k2⟩, ⟨f0, f1, f2⟩, h⟩ := st.out.p2; go_simp; (try rw [hV]); replace st := hide h; clear hV k0 k1 k2 f0 f1 f2 h; refine hK.out _ _ (trivial) (fun hHeld => ?_); clear hK K
          refine tk 13 (v := ?_) hHeld ?_ ?_; rotate_left; (focus (intro w hSw; (try dsimp only at hSw); go_simp; (try with_reducible rfl)))
          try simp only [Act.put, s1, s2, s3, s4, s5, s6]
          refine r1 14 (fun K hK => ?_)
          obtain ⟨V9, hV, ⟨k0, k1, k2⟩, ⟨f0, f1, f2⟩, h⟩ := st.out.p3; go_simp; (try rw [hV]); replace st := hide h; clear hV k0 k1 k2 f0 f1 f2 h; refine hK.out _ _ (trivial) (fun hHeld => ?_); clear hK K
          refine wpAnyH_done (by kernel_rfl) ?_ _
          go_wp2_with fail; go_meet; exact ⟨rfl, y1, y2, y3, st.out⟩
        ·obtain ⟨k0, k1, k2, k3, k4, k5, k6, k7, k8, k9, k10, k11, k12⟩ := st.out.all; go_simp; clear k0 k1 k2 k3 k4 k5 k6 k7 k8 k9 k10 k11 k12; refine hK.out _ _ (trivial) (fun hHeld => ?_); clear hK K
         try simp only [Act.put, s1, s2, s3, s4, s5, s6]
         refine r1 4 (fun K hK => ?_)
         obtain ⟨k0, k1, k2, k3, k4, k5, k6, k7, k8, k9, k10, k11, k12⟩ := st.out.all; go_simp; clear k0 k1 k2 k3 k4 k5 k6 k7 k8 k9 k10 k11 k12; refine hK.out _ _ (trivial) (fun hHeld => ?_); clear hK K
         refine tk 9 (v := ?_) hHeld ?_ ?_; rotate_left; (focus (intro w hSw; (try dsimp only at hSw); go_simp; (try with_reducible rfl)))
         try simp only [Act.put, s1, s2, s3, s4, s5, s6]
         refine r1 5 (fun K hK => ?_)
         go_simp; go_at_call 26; refine (st.out.c2 HB.out ZH.out hL).mono ?_; rintro e V5 ⟨y2, rfl, h⟩; replace st := hide h; clear h; refine hK.out _ _ (trivial) (fun hHeld => ?_); clear hK K
         try simp only [Act.put, s1, s2, s3, s4, s5, s6]
         refine r1 8 (fun K hK => ?_)
         go_simp; go_at_call 26; refine (st.out.c3 HB.out ZC.out hL).mono ?_; rintro e V6 ⟨y3, rfl, h⟩; replace st := hide h; clear h; refine hK.out _ _ (trivial) (fun hHeld => ?_); clear hK K
         try simp only [Act.put, s1, s2, s3, s4, s5, s6]
         refine r1 10 (fun K hK => ?_)
         obtain ⟨V7, hV, ⟨k0, k1, k2⟩, ⟨f0, f1, f2⟩, h⟩ := st.out.p1; go_simp; (try rw [hV]); replace st := hide h; clear hV k0 k1 k2 f0 f1 f2 h; refine hK.out _ _ (trivial) (fun hHeld => ?_); clear hK K
         refine tk 11 (v := ?_) hHeld ?_ ?_; rotate_left; (focus (intro w hSw; (try dsimp only at hSw); go_simp; (try with_reducible rfl)))
         try simp only [Act.put, s1, s2, s3, s4, s5, s6]
         refine r1 12 (fun K hK => ?_)
         obtain ⟨V8, hV, ⟨k0, k1, k2⟩, ⟨f0, f1, f2⟩, h⟩ := st.out.p2; go_simp; (try rw [hV]); replace st := hide h; clear hV k0 k1 k2 f0 f1 f2 h; refine hK.out _ _ (trivial) (fun hHeld => ?_); clear hK K
         refine tk 13 (v := ?_) hHeld ?_ ?_; rotate_left; (focus (intro w hSw; (try dsimp only at hSw); go_simp; (try with_reducible rfl)))
         try simp only [Act.put, s1, s2, s3, s4, s5, s6]
         refine r1 14 (fun K hK => ?_)
         obtain ⟨V9, hV, ⟨k0, k1, k2⟩, ⟨f0, f1, f2⟩, h⟩ := st.out.p3; go_simp; (try rw [hV]); replace st := hide h; clear hV k0 k1 k2 f0 f1 f2 h; refine hK.out _ _ (trivial) (fun hHeld => ?_); clear hK K
         refine wpAnyH_done (by kernel_rfl) ?_ _
         go_wp2_with fail; go_meet; exact ⟨rfl, y1, y2, y3, st.out⟩
       ·obtain ⟨k0, k1, k2, k3, k4, k5, k6, k7, k8, k9, k10, k11, k12⟩ := st.out.all; go_simp; clear k0 k1 k2 k3 k4 k5 k6 k7 k8 k9 k10 k11 k12; refine hK.out _ _ (trivial) (fun hHeld => ?_); clear hK K
        try simp only [Act.put, s1, s2, s3, s4, s5, s6]
        refine r2 2 7 (fun K hK => ?_) (fun K hK => ?_)
        ·go_simp; go_at_call 26; refine (st.out.c1 HB.out ZL.out hL).mono ?_; rintro e V3 ⟨y1, rfl, h⟩; replace st := hide h; clear h; refine hK.out _ _ (trivial) (fun hHeld => ?_); clear hK K
         try simp only [Act.put, s1, s2, s3, s4, s5, s6]
         refine r2 5 7 (fun K hK => ?_) (fun K hK => ?_)
         ·go_simp; go_at_call 26; refine (st.out.c2 HB.out ZH.out hL).mono ?_; rintro e V4 ⟨y2, rfl, h⟩; replace st := hide h; clear h; refine hK.out _ _ (trivial) (fun hHeld => ?_); clear hK K
          try simp only [Act.put, s1, s2, s3, s4, s5, s6]
          refine r1 7 (fun K hK => ?_)
          obtain ⟨k0, k1, k2, k3, k4, k5, k6, k7, k8, k9, k10, k11, k12⟩ := st.out.all; go_simp; clear k0 k1 k2 k3 k4 k5 k6 k7 k8 k9 k10 k11 k12; refine hK.out _ _ (trivial) (fun hHeld => ?_); clear hK K
          refine tk 9 (v := ?_) hHeld ?_ ?_; rotate_left; (focus (intro w hSw; (try dsimp only at hSw); go_simp; (try with_reducible rfl)))
          try simp only [Act.put, s1, s2, s3, s4, s5, s6]
          refine r1 8 (fun K hK => ?_)
          go_simp; go_at_call 26; refine (st.out.c3 HB.out ZC.out hL).mono ?_; rintro e V6 ⟨y3, rfl, h⟩; replace st := hide h; clear h; refine hK.out _ _ (trivial) (fun hHeld => ?_); clear hK K
          try simp only [Act.put, s1, s2, s3, s4, s5, s6]
          refine r1 10 (fun K hK => ?_)
          obtain ⟨V7, hV, ⟨k0, k1, k2⟩, ⟨f0, f1, f2⟩, h⟩ := st.out.p1; go_simp; (try rw [hV]); replace st := hide h; clear hV k0 k1 k2 f0 f1 f2 h; refine hK.out _ _ (trivial) (fun hHeld => ?_); clear hK K
          refine tk 11 (v := ?_) hHeld ?_ ?_; rotate_left; (focus (intro w hSw; (try dsimp only at hSw); go_simp; (try with_reducible rfl)))
          try simp only [Act.put, s1, s2, s3, s4, s5, s6]
          refine r1 12 (fun K hK => ?_)
          obtain ⟨V8, hV, ⟨k0, k1, k2⟩, ⟨f0, f1, f2⟩, h⟩ := st.out.p2; go_simp; (try rw [hV]); replace st := hide h; clear hV k0 k1 k2 f0 f1 f2 h; refine hK.out _ _ (trivial) (fun hHeld => ?_); clear hK K
          refine tk 13 (v := ?_) hHeld ?_ ?_; rotate_left; (focus (intro w hSw; (try dsimp only at hSw); go_simp; (try with_reducible rfl)))
          try simp only [Act.put, s1, s2, s3, s4, s5, s6]
          refine r1 14 (fun K hK => ?_)
          obtain ⟨V9, hV, ⟨k0, k1, k2⟩, ⟨f0, f1, f2⟩, h⟩ := st.out.p3; go_simp; (try rw [hV]); replace st := hide h; clear hV k0 k1 k2 f0 f1 f2 h; refine hK.out _ _ (trivial) (fun hHeld => ?_); clear hK K
          refine wpAnyH_done (by kernel_rfl) ?_ _
          go_wp2_with fail; go_meet; exact ⟨rfl, y1, y2, y3, st.out⟩
         ·obtain ⟨k0, k1, k2, k3, k4, k5, k6, k7, k8, k9, k10, k11, k12⟩ := st.out.all; go_simp; clear k0 k1 k2 k3 k4 k5 k6 k7 k8 k9 k10 k11 k12; refine hK.out _ _ (trivial) (fun hHeld => ?_); clear hK K
          refine tk 9 (v := ?_) hHeld ?_ ?_; rotate_left; (focus (intro w hSw; (try dsimp only at hSw); go_simp; (try with_reducible rfl)))
          try simp only [Act.put, s1, s2, s3, s4, s5, s6]
          refine r1 5 (fun K hK => ?_)
          go_simp; go_at_call 26; refine (st.out.c2 HB.out ZH.out hL).mono ?_; rintro e V5 ⟨y2, rfl, h⟩; replace st := hide h; clear h; refine hK.out _ _ (trivial) (fun hHeld => ?_); clear hK K
          try simp only [Act.put, s1, s2, s3, s4, s5, s6]
          refine r1 8 (fun K hK => ?_)
          go_simp; go_at_call 26; refine (st.out.c3 HB.out ZC.out hL).mono ?_; rintro e V6 ⟨y3, rfl, h⟩; replace st := hide h; clear h; refine hK.out _ _ (trivial) (fun hHeld => ?_); clear hK K
          try simp only [Act.put, s1, s2, s3, s4, s5, s6]
          refine r1 10 (fun K hK => ?_)
          obtain ⟨V7, hV, ⟨k0, k1, k2⟩, ⟨f0, f1, f2⟩, h⟩ := st.out.p1; go_simp; (try rw [hV]); replace st := hide h; clear hV k0 k1 k2 f0 f1 f2 h; refine hK.out _ _ (trivial) (fun hHeld => ?_); clear hK K
          refine tk 11 (v := ?_) hHeld ?_ ?_; rotate_left; (focus (intro w hSw; (try dsimp only at hSw); go_simp; (try with_reducible rfl)))
          try simp only [Act.put, s1, s2, s3, s4, s5, s6]
          refine r1 12 (fun K hK => ?_)
          obtain ⟨V8, hV, ⟨k0, k1, k2⟩, ⟨f0, f1, f2⟩, h⟩ := st.out.p2; go_simp; (try rw [hV]); replace st := hide h; clear hV k0 k1 k2 f0 f1 f2 h; refine hK.out _ _ (trivial) (fun hHeld => ?_); clear hK K
          refine tk 13 (v := ?_) hHeld ?_ ?_; rotate_left; (focus (intro w hSw; (try dsimp only at hSw); go_simp; (try with_reducible rfl)))
          try simp only [Act.put, s1, s2, s3, s4, s5, s6]
          refine r1 14 (fun K hK => ?_)
          obtain ⟨V9, hV, ⟨k0, k1, k2⟩, ⟨f0, f1, f2⟩, h⟩ := st.out.p3; go_simp; (try rw [hV]); replace st := hide h; clear hV k0 k1 k2 f0 f1 f2 h; refine hK.out _ _ (trivial) (fun hHeld => ?_); clear hK K
          refine wpAnyH_done (by kernel_rfl) ?_ _
          go_wp2_with fail; go_meet; exact ⟨rfl, y1, y2, y3, st.out⟩
        ·obtain ⟨k0, k1, k2, k3, k4, k5, k6, k7, k8, k9, k10, k11, k12⟩ := st.out.all; go_simp; clear k0 k1 k2 k3 k4 k5 k6 k7 k8 k9 k10 k11 k12; refine hK.out _ _ (trivial) (fun hHeld => ?_); clear hK K
         try simp only [Act.put, s1, s2, s3, s4, s5, s6]
         refine r1 2 (fun K hK => ?_)
         go_simp; go_at_call 26; refine (st.out.c1 HB.out ZL.out hL).mono ?_; rintro e V4 ⟨y1, rfl, h⟩; replace st := hide h; clear h; refine hK.out _ _ (trivial) (fun hHeld => ?_); clear hK K
         refine tk 9 (v := ?_) hHeld ?_ ?_; rotate_left; (focus (intro w hSw; (try dsimp only at hSw); go_simp; (try with_reducible rfl)))
         try simp only [Act.put, s1, s2, s3, s4, s5, s6]
         refine r1 5 (fun K hK => ?_)
         go_simp; go_at_call 26; refine (st.out.c2 HB.out ZH.out hL).mono ?_; rintro e V5 ⟨y2, rfl, h⟩; replace st := hide h; clear h; refine hK.out _ _ (trivial) (fun hHeld => ?_); clear hK K
         try simp only [Act.put, s1, s2, s3, s4, s5, s6]
         refine r1 8 (fun K hK => ?_)
         go_simp; go_at_call 26; refine (st.out.c3 HB.out ZC.out hL).mono ?_; rintro e V6 ⟨y3, rfl, h⟩; replace st := hide h; clear h; refine hK.out _ _ (trivial) (fun hHeld => ?_); clear hK K
         try simp only [Act.put, s1, s2, s3, s4, s5, s6]
         refine r1 10 (fun K hK => ?_)
         obtain ⟨V7, hV, ⟨k0, k1, k2⟩, ⟨f0, f1, f2⟩, h⟩ := st.out.p1; go_simp; (try rw [hV]); replace st := hide h; clear hV k0 k1 k2 f0 f1 f2 h; refine hK.out _ _ (trivial) (fun hHeld => ?_); clear hK K
         refine tk 11 (v := ?_) hHeld ?_ ?_; rotate_left; (focus (intro w hSw; (try dsimp only at hSw); go_simp; (try with_reducible rfl)))
         try simp only [Act.put, s1, s2, s3, s4, s5, s6]
         refine r1 12 (fun K hK => ?_)
         obtain ⟨V8, hV, ⟨k0, k1, k2⟩, ⟨f0, f1, f2⟩, h⟩ := st.out.p2; go_simp; (try rw [hV]); replace st := hide h; clear hV k0 k1 k2 f0 f1 f2 h; refine hK.out _ _ (trivial) (fun hHeld => ?_); clear hK K
         refine tk 13 (v := ?_) hHeld ?_ ?_; rotate_left; (focus (intro w hSw; (try dsimp only at hSw); go_simp; (try with_reducible rfl)))
         try simp only [Act.put, s1, s2, s3, s4, s5, s6]
         refine r1 14 (fun K hK => ?_)
         obtain ⟨V9, hV, ⟨k0, k1, k2⟩, ⟨f0, f1, f2⟩, h⟩ := st.out.p3; go_simp; (try rw [hV]); replace st := hide h; clear hV k0 k1 k2 f0 f1 f2 h; refine hK.out _ _ (trivial) (fun hHeld => ?_); clear hK K
         refine wpAnyH_done (by kernel_rfl) ?_ _
         go_wp2_with fail; go_meet; exact ⟨rfl, y1, y2, y3, st.out⟩
       ·obtain ⟨k0, k1, k2, k3, k4, k5, k6, k7, k8, k9, k10, k11, k12⟩ := st.out.all; go_simp; clear k0 k1 k2 k3 k4 k5 k6 k7 k8 k9 k10 k11 k12; refine hK.out _ _ (trivial) (fun hHeld => ?_); clear hK K
        try simp only [Act.put, s1, s2, s3, s4, s5, s6]
        refine r2 2 4 (fun K hK => ?_) (fun K hK => ?_)
        ·go_simp; go_at_call 26; refine (st.out.c1 HB.out ZL.out hL).mono ?_; rintro e V3 ⟨y1, rfl, h⟩; replace st := hide h; clear h; refine hK.out _ _ (trivial) (fun hHeld => ?_); clear hK K
         try simp only [Act.put, s1, s2, s3, s4, s5, s6]
         refine r1 4 (fun K hK => ?_)
         obtain ⟨k0, k1, k2, k3, k4, k5, k6, k7, k8, k9, k10, k11, k12⟩ := st.out.all; go_simp; clear k0 k1 k2 k3 k4 k5 k6 k7 k8 k9 k10 k11 k12; refine hK.out _ _ (trivial) (fun hHeld => ?_); clear hK K
         refine tk 9 (v := ?_) hHeld ?_ ?_; rotate_left; (focus (intro w hSw; (try dsimp only at hSw); go_simp; (try with_reducible rfl)))
         try simp only [Act.put, s1, s2, s3, s4, s5, s6]
         refine r1 5 (fun K hK => ?_)
         go_simp; go_at_call 26; refine (st.out.c2 HB.out ZH.out hL).mono ?_; rintro e V5 ⟨y2, rfl, h⟩; replace st := hide h; clear h; refine hK.out _ _ (trivial) (fun hHeld => ?_); clear hK K
         try simp only [Act.put, s1, s2, s3, s4, s5, s6]
         refine r1 8 (fun K hK => ?_)
         go_simp; go_at_call 26; refine (st.out.c3 HB.out ZC.out hL).mono ?_; rintro e V6 ⟨y3, rfl, h⟩; replace st := hide h; clear h; refine hK.out _ _ (trivial) (fun hHeld => ?_); clear hK K
         try simp only [Act.put, s1, s2, s3, s4, s5, s6]
         refine r1 10 (fun K hK => ?_)
         obtain ⟨V7, hV, ⟨k0, k1, k2⟩, ⟨f0, f1, f2⟩, h⟩ := st.out.p1; go_simp; (try rw [hV]); replace st := hide h; clear hV k0 k1 k2 f0 f1 f2 h; refine hK.out _ _ (trivial) (fun hHeld => ?_); clear hK K
         refine tk 11 (v := ?_) hHeld ?_ ?_; rotate_left; (focus (intro w hSw; (try dsimp only at hSw); go_simp; (try with_reducible rfl)))
         try simp only [Act.put, s1, s2, s3, s4, s5, s6]
         refine r1 12 (fun K hK => ?_)
         obtain ⟨V8, hV, ⟨k0, k1, k2⟩, ⟨f0, f1, f2⟩, h⟩ := st.out.p2; go_simp; (try rw [hV]); replace st := hide h; clear hV k0 k1 k2 f0 f1 f2 h; refine hK.out _ _ (trivial) (fun hHeld => ?_); clear hK K
         refine tk 13 (v := ?_) hHeld ?_ ?_; rotate_left; (focus (intro w hSw; (try dsimp only at hSw); go_simp; (try with_reducible rfl)))
         try simp only [Act.put, s1, s2, s3, s4, s5, s6]
         refine r1 14 (fun K hK => ?_)
         obtain ⟨V9, hV, ⟨k0, k1, k2⟩, ⟨f0, f1, f2⟩, h⟩ := st.out.p3; go_simp; (try rw [hV]); replace st := hide h; clear hV k0 k1 k2 f0 f1 f2 h; refine hK.out _ _ (trivial) (fun hHeld => ?_); clear hK K
         refine wpAnyH_done (by kernel_rfl) ?_ _
         go_wp2_with fail; go_meet; exact ⟨rfl, y1, y2, y3, st.out⟩
        ·obtain ⟨k0, k1, k2, k3, k4, k5, k6, k7, k8, k9, k10, k11, k12⟩ := st.out.all; go_simp; clear k0 k1 k2 k3 k4 k5 k6 k7 k8 k9 k10 k11 k12; refine hK.out _ _ (trivial) (fun hHeld => ?_); clear hK K
         try simp only [Act.put, s1, s2, s3, s4, s5, s6]
         refine r1 2 (fun K hK => ?_)
         go_simp; go_at_call 26; refine (st.out.c1 HB.out ZL.out hL).mono ?_; rintro e V4 ⟨y1, rfl, h⟩; replace st := hide h; clear h; refine hK.out _ _ (trivial) (fun hHeld => ?_); clear hK K
         refine tk 9 (v := ?_) hHeld ?_ ?_; rotate_left; (focus (intro w hSw; (try dsimp only at hSw); go_simp; (try with_reducible rfl)))
         try simp only [Act.put, s1, s2, s3, s4, s5, s6]
         refine r1 5 (fun K hK => ?_)
         go_simp; go_at_call 26; refine (st.out.c2 HB.out ZH.out hL).mono ?_; rintro e V5 ⟨y2, rfl, h⟩; replace st := hide h; clear h; refine hK.out _ _ (trivial) (fun hHeld => ?_); clear hK K
         try simp only [Act.put, s1, s2, s3, s4, s5, s6]
         refine r1 8 (fun K hK => ?_)
         go_simp; go_at_call 26; refine (st.out.c3 HB.out ZC.out hL).mono ?_; rintro e V6 ⟨y3, rfl, h⟩; replace st := hide h; clear h; refine hK.out _ _ (trivial) (fun hHeld => ?_); clear hK K
         try simp only [Act.put, s1, s2, s3, s4, s5, s6]
         refine r1 10 (fun K hK => ?_)
         obtain ⟨V7, hV, ⟨k0, k1, k2⟩, ⟨f0, f1, f2⟩, h⟩ := st.out.p1; go_simp; (try rw [hV]); replace st := hide h; clear hV k0 k1 k2 f0 f1 f2 h; refine hK.out _ _ (trivial) (fun hHeld => ?_); clear hK K
         refine tk 11 (v := ?_) hHeld ?_ ?_; rotate_left; (focus (intro w hSw; (try dsimp only at hSw); go_simp; (try with_reducible rfl)))
         try simp only [Act.put, s1, s2, s3, s4, s5, s6]
         refine r1 12 (fun K hK => ?_)
         obtain ⟨V8, hV, ⟨k0, k1, k2⟩, ⟨f0, f1, f2⟩, h⟩ := st.out.p2; go_simp; (try rw [hV]); replace st := hide h; clear hV k0 k1 k2 f0 f1 f2 h; refine hK.out _ _ (trivial) (fun hHeld => ?_); clear hK K
         refine tk 13 (v := ?_) hHeld ?_ ?_; rotate_left; (focus (intro w hSw; (try dsimp only at hSw); go_simp; (try with_reducible rfl)))
         try simp only [Act.put, s1, s2, s3, s4, s5, s6]
         refine r1 14 (fun K hK => ?_)
         obtain ⟨V9, hV, ⟨k0, k1, k2⟩, ⟨f0, f1, f2⟩, h⟩ := st.out.p3; go_simp; (try rw [hV]); replace st := hide h; clear hV k0 k1 k2 f0 f1 f2 h; refine hK.out _ _ (trivial) (fun hHeld => ?_); clear hK K
         refine wpAnyH_done (by kernel_rfl) ?_ _
         go_wp2_with fail; go_meet; exact ⟨rfl, y1, y2, y3, st.out⟩
      ·obtain ⟨k0, k1, k2, k3, k4, k5, k6, k7, k8, k9, k10, k11, k12⟩ := st.out.all; go_simp; clear k0 k1 k2 k3 k4 k5 k6 k7 k8 k9 k10 k11 k12; refine hK.out _ _ (trivial) (fun hHeld => ?_); clear hK K
       try simp only [Act.put, s1, s2, s3, s4, s5, s6]
       refine r2 1 7 (fun K hK => ?_) (fun K hK => ?_)
       ·obtain ⟨k0, k1, k2, k3, k4, k5, k6, k7, k8, k9, k10, k11, k12⟩ := st.out.all; go_simp; clear k0 k1 k2 k3 k4 k5 k6 k7 k8 k9 k10 k11 k12; refine hK.out _ _ (trivial) (fun hHeld => ?_); clear hK K
        try simp only [Act.put, s1, s2, s3, s4, s5, s6]
        refine r2 2 7 (fun K hK => ?_) (fun K hK => ?_)
        ·go_simp; go_at_call 26; refine (st.out.c1 HB.out ZL.out hL).mono ?_; rintro e V3 ⟨y1, rfl, h⟩; replace st := hide h; clear h; refine hK.out _ _ (trivial) (fun hHeld => ?_); clear hK K
         try simp only [Act.put, s1, s2, s3, s4, s5, s6]
         refine r2 5 7 (fun K hK => ?_) (fun K hK => ?_)
         ·go_simp; go_at_call 26; refine (st.out.c2 HB.out ZH.out hL).mono ?_; rintro e V4 ⟨y2, rfl, h⟩; replace st := hide h; clear h; refine hK.out _ _ (trivial) (fun hHeld => ?_); clear hK K
          try simp only [Act.put, s1, s2, s3, s4, s5, s6]
          refine r1 7 (fun K hK => ?_)
          obtain ⟨k0, k1, k2, k3, k4, k5, k6, k7, k8, k9, k10, k11, k12⟩ := st.out.all; go_simp; clear k0 k1 k2 k3 k4 k5 k6 k7 k8 k9 k10 k11 k12; refine hK.out _ _ (trivial) (fun hHeld => ?_); clear hK K
          refine tk 9 (v := ?_) hHeld ?_ ?_; rotate_left; (focus (intro w hSw; (try dsimp only at hSw); go_simp; (try with_reducible rfl)))
          try simp only [Act.put, s1, s2, s3, s4, s5, s6]
          refine r1 8 (fun K hK => ?_)
          go_simp; go_at_call 26; refine (st.out.c3 HB.out ZC.out hL).mono ?_; rintro e V6 ⟨y3, rfl, h⟩; replace st := hide h; clear h; refine hK.out _ _ (trivial) (fun hHeld => ?_); clear hK K
          try simp only [Act.put, s1, s2, s3, s4, s5, s6]
          refine r1 10 (fun K hK => ?_)
          obtain ⟨V7, hV, ⟨k0, k1, k2⟩, ⟨f0, f1, f2⟩, h⟩ := st.out.p1; go_simp; (try rw [hV]); replace st := hide h; clear hV k0 k1 k2 f0 f1 f2 h; refine hK.out _ _ (trivial) (fun hHeld => ?_); clear hK K
          refine tk 11 (v := ?_) hHeld ?_ ?_; rotate_left; (focus (intro w hSw; (try dsimp only at hSw); go_simp; (try with_reducible rfl)))
          try simp only [Act.put, s1, s2, s3, s4, s5, s6]
          refine r1 12 (fun K hK => ?_)
          obtain ⟨V8, hV, ⟨k0, k1, k2⟩, ⟨f0, f1, f2⟩, h⟩ := st.out.p2; go_simp; (try rw [hV]); replace st := hide h; clear hV k0 k1 k2 f0 f1 f2 h; refine hK.out _ _ (trivial) (fun hHeld => ?_); clear hK K
          refine tk 13 (v := ?_) hHeld ?_ ?_; rotate_left; (focus (intro w hSw; (try dsimp only at hSw); go_simp; (try with_reducible rfl)))
          try simp only [Act.put, s1, s2, s3, s4, s5, s6]
          refine r1 14 (fun K hK => ?_)
          obtain ⟨V9, hV, ⟨k0, k1, k2⟩, ⟨f0, f1, f2⟩, h⟩ := st.out.p3; go_simp; (try rw [hV]); replace st := hide h; clear hV k0 k1 k2 f0 f1 f2 h; refine hK.out _ _ (trivial) (fun hHeld => ?_); clear hK K
          refine wpAnyH_done (by kernel_rfl) ?_ _
          go_wp2_with fail; go_meet; exact ⟨rfl, y1, y2, y3, st.out⟩
         ·obtain ⟨k0, k1, k2, k3, k4, k5, k6, k7, k8, k9, k10, k11, k12⟩ := st.out.all; go_simp; clear k0 k1 k2 k3 k4 k5 k6 k7 k8 k9 k10 k11 k12; refine hK.out _ _ (trivial) (fun hHeld => ?_); clear hK K
          refine tk 9 (v := ?_) hHeld ?_ ?_; rotate_left; (focus (intro w hSw; (try dsimp only at hSw); go_simp; (try with_reducible rfl)))
          try simp only [Act.put, s1, s2, s3, s4, s5, s6]
          refine r1 5 (fun K hK => ?_)
          go_simp; go_at_call 26; refine (st.out.c2 HB.out ZH.out hL).mono ?_; rintro e V5 ⟨y2, rfl, h⟩; replace st := hide h; clear h; refine hK.out _ _ (trivial) (fun hHeld => ?_); clear hK K
          try simp only [Act.put, s1, s2, s3, s4, s5, s6]
          refine r1 8 (fun K hK => ?_)
          go_simp; go_at_call 26; refine (st.out.c3 HB.out ZC.out hL).mono ?_; rintro e V6 ⟨y3, rfl, h⟩; replace st := hide h; clear h; refine hK.out _ _ (trivial) (fun hHeld => ?_); clear hK K
          try simp only [Act.put, s1, s2, s3, s4, s5, s6]
          refine r1 10 (fun K hK => ?_)
          obtain ⟨V7, hV, ⟨k0, k1, k2⟩, ⟨f0, f1, f2⟩, h⟩ := st.out.p1; go_simp; (try rw [hV]); replace st := hide h; clear hV k0 k1 k2 f0 f1 f2 h; refine hK.out _ _ (trivial) (fun hHeld => ?_); clear hK K
          refine tk 11 (v := ?_) hHeld ?_ ?_; rotate_left; (focus (intro w hSw; (try dsimp only at hSw); go_simp; (try with_reducible rfl)))
          try simp only [Act.put, s1, s2, s3, s4, s5, s6]
          refine r1 12 (fun K hK => ?_)
          obtain ⟨V8, hV, ⟨k0, k1, k2⟩, ⟨f0, f1, f2⟩, h⟩ := st.out.p2; go_simp; (try rw [hV]); replace st := hide h; clear hV k0 k1 k2 f0 f1 f2 h; refine hK.out _ _ (trivial) (fun hHeld => ?_); clear hK K
          refine tk 13 (v := ?_) hHeld ?_ ?_; rotate_left; (focus (intro w hSw; (try dsimp only at hSw); go_simp; (try with_reducible rfl)))
          try simp only [Act.put, s1, s2, s3, s4, s5, s6]
          refine r1 14 (fun K hK => ?_)
          obtain ⟨V9, hV, ⟨k0, k1, k2⟩, ⟨f0, f1, f2⟩, h⟩ := st.out.p3; go_simp; (try rw [hV]); replace st := hide h; clear hV k0 k1 k2 f0 f1 f2 h; refine hK.out _ _ (trivial) (fun hHeld => ?_); clear hK K
          refine wpAnyH_done (by kernel_rfl) ?_ _
          go_wp2_with fail; go_meet; exact ⟨rfl, y1, y2, y3, st.out⟩
        ·obtain ⟨k0, k1, k2, k3, k4, k5, k6, k7, k8, k9, k10, k11, k12⟩ := st.out.all; go_simp; clear k0 k1 k2 k3 k4 k5 k6 k7 k8 k9 k10 k11 k12; refine hK.out _ _ (trivial) (fun hHeld => ?_); clear hK K
         try simp only [Act.put, s1, s2, s3, s4, s5, s6]
         refine r1 2 (fun K hK => ?_)
         go_simp; go_at_call 26; refine (st.out.c1 HB.out ZL.out hL).mono ?_; rintro e V4 ⟨y1, rfl, h⟩; replace st := hide h; clear h; refine hK.out _ _ (trivial) (fun hHeld => ?_); clear hK K
         refine tk 9 (v := ?_) hHeld ?_ ?_; rotate_left; (focus (intro w hSw; (try dsimp only at hSw); go_simp; (try with_reducible rfl)))
         try simp only [Act.put, s1, s2, s3, s4, s5, s6]
         refine r1 5 (fun K hK => ?_)
         go_simp; go_at_call 26; refine (st.out.c2 HB.out ZH.out hL).mono ?_; rintro e V5 ⟨y2, rfl, h⟩; replace st := hide h; clear h; refine hK.out _ _ (trivial) (fun hHeld => ?_); clear hK K
         try simp only [Act.put, s1, s2, s3, s4, s5, s6]
         refine r1 8 (fun K hK => ?_)
         go_simp; go_at_call 26; refine (st.out.c3 HB.out ZC.out hL).mono ?_; rintro e V6 ⟨y3, rfl, h⟩; replace st := hide h; clear h; refine hK.out _ _ (trivial) (fun hHeld => ?_); clear hK K
         try simp only [Act.put, s1, s2, s3, s4, s5, s6]
         refine r1 10 (fun K hK => ?_)
         obtain ⟨V7, hV, ⟨k0, k1, k2⟩, ⟨f0, f1, f2⟩, h⟩ := st.out.p1; go_simp; (try rw [hV]); replace st := hide h; clear hV k0 k1 k2 f0 f1 f2 h; refine hK.out _ _ (trivial) (fun hHeld => ?_); clear hK K
         refine tk 11 (v := ?_) hHeld ?_ ?_; rotate_left; (focus (intro w hSw; (try dsimp only at hSw); go_simp; (try with_reducible rfl)))
         try simp only [Act.put, s1, s2, s3, s4, s5, s6]
         refine r1 12 (fun K hK => ?_)
         obtain ⟨V8, hV, ⟨k0, k1, k2⟩, ⟨f0, f1, f2⟩, h⟩ := st.out.p2; go_simp; (try rw [hV]); replace st := hide h; clear hV k0 k1 k2 f0 f1 f2 h; refine hK.out _ _ (trivial) (fun hHeld => ?_); clear hK K
         refine tk 13 (v := ?_) hHeld ?_ ?_; rotate_left; (focus (intro w hSw; (try dsimp only at hSw); go_simp; (try with_reducible rfl)))
         try simp only [Act.put, s1, s2, s3, s4, s5, s6]
         refine r1 14 (fun K hK => ?_)
         obtain ⟨V9, hV, ⟨k0, k1, k2⟩, ⟨f0, f1, f2⟩, h⟩ := st.out.p3; go_simp; (try rw [hV]); replace st := hide h; clear hV k0 k1 k2 f0 f1 f2 h; refine hK.out _ _ (trivial) (fun hHeld => ?_); clear hK K
         refine wpAnyH_done (by kernel_rfl) ?_ _
         go_wp2_with fail; go_meet; exact ⟨rfl, y1, y2, y3, st.out⟩
       ·obtain ⟨k0, k1, k2, k3, k4, k5, k6, k7, k8, k9, k10, k11, k12⟩ := st.out.all; go_simp; clear k0 k1 k2 k3 k4 k5 k6 k7 k8 k9 k10 k11 k12; refine hK.out _ _ (trivial) (fun hHeld => ?_); clear hK K
        try simp only [Act.put, s1, s2, s3, s4, s5, s6]
        refine r1 1 (fun K hK => ?_)
        obtain ⟨k0, k1, k2, k3, k4, k5, k6, k7, k8, k9, k10, k11, k12⟩ := st.out.all; go_simp; clear k0 k1 k2 k3 k4 k5 k6 k7 k8 k9 k10 k11 k12; refine hK.out _ _ (trivial) (fun hHeld => ?_); clear hK K
        try simp only [Act.put, s1, s2, s3, s4, s5, s6]
        refine r1 2 (fun K hK => ?_)
        go_simp; go_at_call 26; refine (st.out.c1 HB.out ZL.out hL).mono ?_; rintro e V4 ⟨y1, rfl, h⟩; replace st := hide h; clear h; refine hK.out _ _ (trivial) (fun hHeld => ?_); clear hK K
        refine tk 9 (v := ?_) hHeld ?_ ?_; rotate_left; (focus (intro w hSw; (try dsimp only at hSw); go_simp; (try with_reducible rfl)))
        try simp only [Act.put, s1, s2, s3, s4, s5, s6]
        refine r1 5 (fun K hK => ?_)
        go_simp; go_at_call 26; refine (st.out.c2 HB.out ZH.out hL).mono ?_; rintro e V5 ⟨y2, rfl, h⟩; replace st := hide h; clear h; refine hK.out _ _ (trivial) (fun hHeld => ?_); clear hK K
        try simp only [Act.put, s1, s2, s3, s4, s5, s6]
        refine r1 8 (fun K hK => ?_)
        go_simp; go_at_call 26; refine (st.out.c3 HB.out ZC.out hL).mono ?_; rintro e V6 ⟨y3, rfl, h⟩; replace st := hide h; clear h; refine hK.out _ _ (trivial) (fun hHeld => ?_); clear hK K
        try simp only [Act.put, s1, s2, s3, s4, s5, s6]
        refine r1 10 (fun K hK => ?_)
        obtain ⟨V7, hV, ⟨k0, k1, k2⟩, ⟨f0, f1, f2⟩, h⟩ := st.out.p1; go_simp; (try rw [hV]); replace st := hide h; clear hV k0 k1 k2 f0 f1 f2 h; refine hK.out _ _ (trivial) (fun hHeld => ?_); clear hK K
        refine tk 11 (v := ?_) hHeld ?_ ?_; rotate_left; (focus (intro w hSw; (try dsimp only at hSw); go_simp; (try with_reducible rfl)))
        try simp only [Act.put, s1, s2, s3, s4, s5, s6]
        refine r1 12 (fun K hK => ?_)
        obtain ⟨V8, hV, ⟨k0, k1, k2⟩, ⟨f0, f1, f2⟩, h⟩ := st.out.p2; go_simp; (try rw [hV]); replace st := hide h; clear hV k0 k1 k2 f0 f1 f2 h; refine hK.out _ _ (trivial) (fun hHeld => ?_); clear hK K
        refine tk 13 (v := ?_) hHeld ?_ ?_; rotate_left; (focus (intro w hSw; (try dsimp only at hSw); go_simp; (try with_reducible rfl)))
        try simp only [Act.put, s1, s2, s3, s4, s5, s6]
        refine r1 14 (fun K hK => ?_)
        obtain ⟨V9, hV, ⟨k0, k1, k2⟩, ⟨f0, f1, f2⟩, h⟩ := st.out.p3; go_simp; (try rw [hV]); replace st := hide h; clear hV k0 k1 k2 f0 f1 f2 h; refine hK.out _ _ (trivial) (fun hHeld => ?_); clear hK K
        refine wpAnyH_done (by kernel_rfl) ?_ _
        go_wp2_with fail; go_meet; exact ⟨rfl, y1, y2, y3, st.out⟩
      ·obtain ⟨k0, k1, k2, k3, k4, k5, k6, k7, k8, k9, k10, k11, k12⟩ := st.out.all; go_simp; clear k0 k1 k2 k3 k4 k5 k6 k7 k8 k9 k10 k11 k12; refine hK.out _ _ (trivial) (fun hHeld => ?_); clear hK K
       try simp only [Act.put, s1, s2, s3, s4, s5, s6]
       refine r2 1 4 (fun K hK => ?_) (fun K hK => ?_)
       ·obtain ⟨k0, k1, k2, k3, k4, k5, k6, k7, k8, k9, k10, k11, k12⟩ := st.out.all; go_simp; clear k0 k1 k2 k3 k4 k5 k6 k7 k8 k9 k10 k11 k12; refine hK.out _ _ (trivial) (fun hHeld => ?_); clear hK K
        try simp only [Act.put, s1, s2, s3, s4, s5, s6]
        refine r2 2 4 (fun K hK => ?_) (fun K hK => ?_)
        ·go_simp; go_at_call 26; refine (st.out.c1 HB.out ZL.out hL).mono ?_; rintro e V3 ⟨y1, rfl, h⟩; replace st := hide h; clear h; refine hK.out _ _ (trivial) (fun hHeld => ?_); clear hK K
         try simp only [Act.put, s1, s2, s3, s4, s5, s6]
         refine r1 4 (fun K hK => ?_)
         obtain ⟨k0, k1, k2, k3, k4, k5, k6, k7, k8, k9, k10, k11, k12⟩ := st.out.all; go_simp; clear k0 k1 k2 k3 k4 k5 k6 k7 k8 k9 k10 k11 k12; refine hK.out _ _ (trivial) (fun hHeld => ?_); clear hK K
         refine tk 9 (v := ?_) hHeld ?_ ?_; rotate_left; (focus (intro w hSw; (try dsimp only at hSw); go_simp; (try with_reducible rfl)))
         try simp only [Act.put, s1, s2, s3, s4, s5, s6]
         refine r1 5 (fun K hK => ?_)
         go_simp; go_at_call 26; refine (st.out.c2 HB.out ZH.out hL).mono ?_; rintro e V5 ⟨y2, rfl, h⟩; replace st := hide h; clear h; refine hK.out _ _ (trivial) (fun hHeld => ?_); clear hK K
         try simp only [Act.put, s1, s2, s3, s4, s5, s6]
         refine r1 8 (fun K hK => ?_)
         go_simp; go_at_call 26; refine (st.out.c3 HB.out ZC.out hL).mono ?_; rintro e V6 ⟨y3, rfl, h⟩; replace st := hide h; clear h; refine hK.out _ _ (trivial) (fun hHeld => ?_); clear hK K
         try simp only [Act.put, s1, s2, s3, s4, s5, s6]
         refine r1 10 (fun K hK => ?_)
         obtain ⟨V7, hV, ⟨k0, k1, k2⟩, ⟨f0, f1, f2⟩, h⟩ := st.out.p1; go_simp; (try rw [hV]); replace st := hide h; clear hV k0 k1 k2 f0 f1 f2 h; refine hK.out _ _ (trivial) (fun hHeld => ?_); clear hK K
         refine tk 11 (v := ?_) hHeld ?_ ?_; rotate_left; (focus (intro w hSw; (try dsimp only at hSw); go_simp; (try with_reducible rfl)))
         try simp only [Act.put, s1, s2, s3, s4, s5, s6]
         refine r1 12 (fun K hK => ?_)
         obtain ⟨V8, hV, ⟨k0, k1, k2⟩, ⟨f0, f1, f2⟩, h⟩ := st.out.p2; go_simp; (try rw [hV]); replace st := hide h; clear hV k0 k1 k2 f0 f1 f2 h; refine hK.out _ _ (trivial) (fun hHeld => ?_); clear hK K
         refine tk 13 (v := ?_) hHeld ?_ ?_; rotate_left; (focus (intro w hSw; (try dsimp only at hSw); go_simp; (try with_reducible rfl)))
         try simp only [Act.put, s1, s2, s3, s4, s5, s6]
         refine r1 14 (fun K hK => ?_)
         obtain ⟨V9, hV, ⟨k0, k1, k2⟩, ⟨f0, f1, f2⟩, h⟩ := st.out.p3; go_simp; (try rw [hV]); replace st := hide h; clear hV k0 k1 k2 f0 f1 f2 h; refine hK.out _ _ (trivial) (fun hHeld => ?_); clear hK K
         refine wpAnyH_done (by kernel_rfl) ?_ _
         go_wp2_with fail; go_meet; exact ⟨rfl, y1, y2, y3, st.out⟩
        ·obtain ⟨k0, k1, k2, k3, k4, k5, k6, k7, k8, k9, k10, k11, k12⟩ := st.out.all; go_simp; clear k0 k1 k2 k3 k4 k5 k6 k7 k8 k9 k10 k11 k12; refine hK.out _ _ (trivial) (fun hHeld => ?_); clear hK K
         try simp only [Act.put, s1, s2, s3, s4, s5, s6]
         refine r1 2 (fun K hK => ?_)
         go_simp; go_at_call 26; refine (st.out.c1 HB.out ZL.out hL).mono ?_; rintro e V4 ⟨y1, rfl, h⟩; replace st := hide h; clear h; refine hK.out _ _ (trivial) (fun hHeld => ?_); clear hK K
         refine tk 9 (v := ?_) hHeld ?_ ?_; rotate_left; (focus (intro w hSw; (try dsimp only at hSw); go_simp; (try with_reducible rfl)))
         try simp only [Act.put, s1, s2, s3, s4, s5, s6]
         refine r1 5 (fun K hK => ?_)
         go_simp; go_at_call 26; refine (st.out.c2 HB.out ZH.out hL).mono ?_; rintro e V5 ⟨y2, rfl, h⟩; replace st := hide h; clear h; refine hK.out _ _ (trivial) (fun hHeld => ?_); clear hK K
         try simp only [Act.put, s1, s2, s3, s4, s5, s6]
         refine r1 8 (fun K hK => ?_)
         go_simp; go_at_call 26; refine (st.out.c3 HB.out ZC.out hL).mono ?_; rintro e V6 ⟨y3, rfl, h⟩; replace st := hide h; clear h; refine hK.out _ _ (trivial) (fun hHeld => ?_); clear hK K
         try simp only [Act.put, s1, s2, s3, s4, s5, s6]
         refine r1 10 (fun K hK => ?_)
         obtain ⟨V7, hV, ⟨k0, k1, k2⟩, ⟨f0, f1, f2⟩, h⟩ := st.out.p1; go_simp; (try rw [hV]); replace st := hide h; clear hV k0 k1 k2 f0 f1 f2 h; refine hK.out _ _ (trivial) (fun hHeld => ?_); clear hK K
         refine tk 11 (v := ?_) hHeld ?_ ?_; rotate_left; (focus (intro w hSw; (try dsimp only at hSw); go_simp; (try with_reducible rfl)))
         try simp only [Act.put, s1, s2, s3, s4, s5, s6]
         refine r1 12 (fun K hK => ?_)
         obtain ⟨V8, hV, ⟨k0, k1, k2⟩, ⟨f0, f1, f2⟩, h⟩ := st.out.p2; go_simp; (try rw [hV]); replace st := hide h; clear hV k0 k1 k2 f0 f1 f2 h; refine hK.out _ _ (trivial) (fun hHeld => ?_); clear hK K
         refine tk 13 (v := ?_) hHeld ?_ ?_; rotate_left; (focus (intro w hSw; (try dsimp only at hSw); go_simp; (try with_reducible rfl)))
         try simp only [Act.put, s1, s2, s3, s4, s5, s6]
         refine r1 14 (fun K hK => ?_)
         obtain ⟨V9, hV, ⟨k0, k1, k2⟩, ⟨f0, f1, f2⟩, h⟩ := st.out.p3; go_simp; (try rw [hV]); replace st := hide h; clear hV k0 k1 k2 f0 f1 f2 h; refine hK.out _ _ (trivial) (fun hHeld => ?_); clear hK K
         refine wpAnyH_done (by kernel_rfl) ?_ _
         go_wp2_with fail; go_meet; exact ⟨rfl, y1, y2, y3, st.out⟩
       ·obtain ⟨k0, k1, k2, k3, k4, k5, k6, k7, k8, k9, k10, k11, k12⟩ := st.out.all; go_simp; clear k0 k1 k2 k3 k4 k5 k6 k7 k8 k9 k10 k11 k12; refine hK.out _ _ (trivial) (fun hHeld => ?_); clear hK K
        try simp only [Act.put, s1, s2, s3, s4, s5, s6]
        refine r1 1 (fun K hK => ?_)
        obtain ⟨k0, k1, k2, k3, k4, k5, k6, k7, k8, k9, k10, k11, k12⟩ := st.out.all; go_simp; clear k0 k1 k2 k3 k4 k5 k6 k7 k8 k9 k10 k11 k12; refine hK.out _ _ (trivial) (fun hHeld => ?_); clear hK K
        try simp only [Act.put, s1, s2, s3, s4, s5, s6]
        refine r1 2 (fun K hK => ?_)
        go_simp; go_at_call 26; refine (st.out.c1 HB.out ZL.out hL).mono ?_; rintro e V4 ⟨y1, rfl, h⟩; replace st := hide h; clear h; refine hK.out _ _ (trivial) (fun hHeld => ?_); clear hK K
        refine tk 9 (v := ?_) hHeld ?_ ?_; rotate_left; (focus (intro w hSw; (try dsimp only at hSw); go_simp; (try with_reducible rfl)))
        try simp only [Act.put, s1, s2, s3, s4, s5, s6]
        refine r1 5 (fun K hK => ?_)
        go_simp; go_at_call 26; refine (st.out.c2 HB.out ZH.out hL).mono ?_; rintro e V5 ⟨y2, rfl, h⟩; replace st := hide h; clear h; refine hK.out _ _ (trivial) (fun hHeld => ?_); clear hK K
        try simp only [Act.put, s1, s2, s3, s4, s5, s6]
        refine r1 8 (fun K hK => ?_)
        go_simp; go_at_call 26; refine (st.out.c3 HB.out ZC.out hL).mono ?_; rintro e V6 ⟨y3, rfl, h⟩; replace st := hide h; clear h; refine hK.out _ _ (trivial) (fun hHeld => ?_); clear hK K
        try simp only [Act.put, s1, s2, s3, s4, s5, s6]
        refine r1 10 (fun K hK => ?_)
        obtain ⟨V7, hV, ⟨k0, k1, k2⟩, ⟨f0, f1, f2⟩, h⟩ := st.out.p1; go_simp; (try rw [hV]); replace st := hide h; clear hV k0 k1 k2 f0 f1 f2 h; refine hK.out _ _ (trivial) (fun hHeld => ?_); clear hK K
        refine tk 11 (v := ?_) hHeld ?_ ?_; rotate_left; (focus (intro w hSw; (try dsimp only at hSw); go_simp; (try with_reducible rfl)))
        try simp only [Act.put, s1, s2, s3, s4, s5, s6]
        refine r1 12 (fun K hK => ?_)
        obtain ⟨V8, hV, ⟨k0, k1, k2⟩, ⟨f0, f1, f2⟩, h⟩ := st.out.p2; go_simp; (try rw [hV]); replace st := hide h; clear hV k0 k1 k2 f0 f1 f2 h; refine hK.out _ _ (trivial) (fun hHeld => ?_); clear hK K
        refine tk 13 (v := ?_) hHeld ?_ ?_; rotate_left; (focus (intro w hSw; (try dsimp only at hSw); go_simp; (try with_reducible rfl)))
        try simp only [Act.put, s1, s2, s3, s4, s5, s6]
        refine r1 14 (fun K hK => ?_)
        obtain ⟨V9, hV, ⟨k0, k1, k2⟩, ⟨f0, f1, f2⟩, h⟩ := st.out.p3; go_simp; (try rw [hV]); replace st := hide h; clear hV k0 k1 k2 f0 f1 f2 h; refine hK.out _ _ (trivial) (fun hHeld => ?_); clear hK K
        refine wpAnyH_done (by kernel_rfl) ?_ _
        go_wp2_with fail; go_meet; exact ⟨rfl, y1, y2, y3, st.out⟩
     case rest =>
      obtain ⟨rfl, y1, y2, y3, st⟩ := hcut
      have hb := st.1.1
      have BQ := hide (show Uq wc w3.heap.size ⟨x.nm, x.w, x.a, x.b, y1, y2, y3⟩ from st.1.2.2)
      have WG := hide (show Uwg wc w.heap.size ⟨x.nm, x.w, x.a, x.b, y1, y2, y3⟩ t L from ⟨WW.out.1, st.2.1 _ rfl, st.2.2.1 _ rfl, st.2.2.2 _ rfl⟩)
      replace PQ := hide (PQ.out.step hb)
      replace PZ := hide (PZ.out.step hb)
      replace PO := hide (PO.out.step hb)
      replace T := hide (T.out.step hb)
      replace TT := hide (TT.out.step hb)
      replace B := hide (Below.step B.out B.out.size hb)
      clear st hb
      obtain ⟨A1, n1, c1⟩ := u
      obtain ⟨A2, n2, c2⟩ := v
      obtain ⟨o0, o1, o2, o3⟩ := PO.out.alls
      obtain ⟨q0, q1, q2, q3, q4, q5, q6, q7, q8, q9, q10, q11, q12⟩ := BQ.out.all
      go_wp2_with (at_builtin; (refine wpList_pushB rfl (.tmp 68) (.tmp 70) 23 rfl Tryz.underlying23 hj0 hy0 hy1 hy2 rfl (by omega) eu_len eu_one wc w.heap.size _ f ⟨x.nm, x.w, x.a, x.b, y1, y2, y3⟩ _ rfl T.out.1 rfl rfl (by have := LD.out; omega) (by decide) B.out.size ?_; intro v' w' ho hg; obtain ⟨A9, n9, c9, rfl⟩ := rv_sl (ho.rl eu_len); have PO2 := hide (PO.out.off T.out.1 (by decide) hg.1); have PQ2 := hide ((PQ.out.off T.out.1 (by decide) hg.1).oth (g := w.heap.size + 2) (by omega) 3 (.slice A9 n9 c9)); have PZ2 := hide ((PZ.out.off T.out.1 (by decide) hg.1).oth (g := w.heap.size + 2) (by omega) 3 (.slice A9 n9 c9)); have POF := hide (PO2.out.setV (A9, n9, c9) (f ++ [⟨x.nm, x.w, x.a, x.b, y1, y2, y3⟩])); have on9 := only_set (p := ⟨w.heap.size + 2, 3, none⟩) (only_refl w' (some (w.heap.size + 2))) rfl (.slice A9 n9 c9); have TP := hide ((T.out.push ho hg.1 WG.out).box on9 PO2.out (by decide) (by decide)); have TT2 := hide ((TT.out.kept T.out.1 (by decide) (by decide) (by decide) hg.1).box on9 PO2.out (by decide) (by decide) (by decide)); have BF := hide ((below_own B.out T.out.1 hg.1 B.out.size).setCell (p := ⟨w.heap.size + 2, 3, none⟩) (by show w.heap.size ≤ w.heap.size + 2; omega) (.slice A9 n9 c9)); have s2 := PO2.out.alls.2.2.2; have f2 := PO2.out.fz 3; clear on9 ho hg o0 o1 o2 o3 q0 q1 q2 q3 q4 q5 q6 q7 q8 q9 q10 q11 q12 PQ PZ PO T TT B))
      rw [← ETS.out] at TP
      exact ⟨⟨q + 1, (A9, n9, c9), f ++ [⟨x.nm, x.w, x.a, x.b, y1, y2, y3⟩], by omega, by go_num, BF, PQ2, PZ2, POF, TT2, TP⟩, by simp [intOf]; omega⟩
    ·obtain rfl : q = n := by omega
     have TU := hide (show Uwo wr w.heap.size (sv u) f us L by have h := T.out; rwa [List.take_of_length_le (by have := HU.out.2.1; have := HN.out; omega)] at h)
     clear T
     obtain ⟨A1, n1, c1⟩ := u
     obtain ⟨A2, n2, c2⟩ := v
     have z := PZ.out
     unfold p0x at z
     obtain ⟨z0, z1, z2, z3⟩ := Pq.alls z
     have y0 := PZ.out.fz 0
     have y1 := PZ.out.fz 1
     have y2 := PZ.out.fz 2
     have y3 := PZ.out.fz 3
     obtain ⟨o0, o1, o2, o3⟩ := PO.out.alls
     obtain ⟨p0, p1, p2, p3⟩ := PQ.out.alls
     have h0 := heap_setCell_same wr (w.heap.size + 1) 0 _ _ (.string nm) z
     have h1 := heap_setCell_same _ (w.heap.size + 1) 1 _ _ (.string ob) h0
     have h2 := heap_setCell_same _ (w.heap.size + 1) 2 _ _ (.slice A2 n2 c2) h1
     have h3 := heap_setCell_same _ (w.heap.size + 1) 3 _ _ (.slice A1 n1 c1) h2
     have on := only_set (p := ⟨w.heap.size + 1, 3, none⟩) (only_set (p := ⟨w.heap.size + 1, 2, none⟩) (only_set (p := ⟨w.heap.size + 1, 1, none⟩) (only_set (p := ⟨w.heap.size + 1, 0, none⟩) (only_refl wr (some (w.heap.size + 1))) rfl (.string nm)) rfl (.string ob)) rfl (.slice A2 n2 c2)) rfl (.slice A1 n1 c1)
     have F := hide (And.intro (TT.out.box on z (by decide) (by decide) (by decide)) (And.intro (TU.out.box on z (by decide) (by decide)) ((((B.out.setCell (p := ⟨w.heap.size + 1, 0, none⟩) (Nat.le_succ _) (.string nm)).setCell (p := ⟨w.heap.size + 1, 1, none⟩) (Nat.le_succ _) (.string ob)).setCell (p := ⟨w.heap.size + 1, 2, none⟩) (Nat.le_succ _) (.slice A2 n2 c2)).setCell (p := ⟨w.heap.size + 1, 3, none⟩) (Nat.le_succ _) (.slice A1 n1 c1))))
     have H3 := hide h3
     clear z h0 h1 h2 h3 on TT TU B PQ PZ
     go_wp2_with fail
     exact bodyPost_ret (pret rfl _ _ _ #[.string nm, .string ob, .slice A2 n2 c2, .slice A1 n1 c1] rfl rfl H3.out) rfl ⟨⟨nm, ob, (A2, n2, c2), d, (A1, n1, c1), f⟩, rfl, rfl, rfl, F.out.1, F.out.2.1, F.out.2.2⟩
end Go.Proofs.YtnhlomphdighnaaGreat
