
/-
 The document's constraints: Combine.
-/
import Derived.Test.YtfnngcaalpknlaaGreatKxConsCombines
import Derived.Test.YtfnngcaalpknlaaGreatKref8
import Derived.Test.YtfnngcaalpknlaaGreatKdrw
import Derived.Test.YtfnngcaalpknlaaGreatBundleI


namespace Go.Proofs.YtfnngcaalpknlaaGreat
open Go.RowKit Go.Proofs.YtfnngcaalpknlaaGreat.Num
set_option linter.unusedVariables false
set_option linter.unusedSimpArgs false
set_option maxRecDepth 100000
abbrev rz0 : Rx := ⟨false, (none, 0, 0), (none, 0, 0), 0⟩
abbrev kso (t : Int) (v : Option Addr × Nat × Nat) (d : List Tx) : Kx := ⟨t, v, d, rz0⟩
theorem Kq.setv {W : World} {g : Nat} {t : Int} {v v' : Option Addr × Nat × Nat} {d d' : List Tx} (h : Kq W g (kso t v d)) : Kq (W.setCell ⟨g, 1, none⟩ (sv v')) g (kso t v' d') := heap_setCell_same W g 1 _ _ _ h
theorem CmT.skip {l : List Kx} {o : List Rx} {k : Nat} {ts : List Tm} {r : Rat} (h : CmT l o k ts r) (hq : xf o (k : Int) = 0) : CmT l o (k + 1) ts r := by
 refine ⟨fun c hc => ?_, ?_⟩
 ·rw [h.1 c hc]
  show _ = sm k _ + xf o (k : Int) * _
  rw [hq]
  grind
 ·rw [h.2]
  show _ = sm k _ + xf o (k : Int) * _
  rw [hq]
  grind
theorem CmT.nextF {l : List Kx} {o : List Rx} {k : Nat} {ts us : List Tm} {r z : Rat} {kk : Kx} {q : Rx} (h : CmT l o k ts r) (hk : kAt l k = kk) (hq : xf o (k : Int) = q.r) (h2 : ∀ c, 0 ≤ c → gsum us c = q.r * gsum (tms kk.d) c + gsum ts c) (hz : z = r + q.r * kk.x.r) : CmT l o (k + 1) us z := by
 refine ⟨fun c hc => ?_, ?_⟩
 ·rw [h2 c hc, h.1 c hc]
  show _ = sm k _ + xf o (k : Int) * gsum (tms (kAt l k).d) c
  rw [hk, hq]
  grind
 ·rw [hz, h.2]
  show _ = sm k _ + xf o (k : Int) * (kAt l k).x.r
  rw [hk, hq]
theorem rule_ways {s t z : Int} {q : Rat} (hz : z = cmpR q 0) (hq : q ≠ 0) :
  (Hid (May s q t) ∧ ((s != 3) = false ∨ ((s != 3) = true ∧ (t == 3) = false ∧ ∃ bb, (s == t) = bb ∧ decide (0 < z) = bb))) ∨
   (Hid (¬ May s q t) ∧ ((s != 3) = true ∧ (t == 3) = true ∨ (s != 3) = true ∧ (t == 3) = false ∧ ∃ bb, (s == t) = bb ∧ decide (0 < z) = !bb)) := by
 have hz0 : decide (0 < z) = true ↔ 0 < q := by
  rw [decide_eq_true_iff, hz]
  have h1 : 0 ≤ cmpR q 0 ↔ (0 : Rat) ≤ q := cmp_ge0
  have h2 : cmpR q 0 = 0 ↔ q = 0 := cmp_eq0
  constructor
  ·intro h
   have h3 := h1.1 (by omega)
   grind
  ·intro h
   have h3 := h1.2 (by grind)
   have h4 : cmpR q 0 ≠ 0 := fun e => hq (h2.1 e)
   omega
 by_cases h3 : s = 3
 ·exact .inl ⟨hide (.inr (.inl h3)), .inl (by rw [h3]; rfl)⟩
 have n3 : (s != 3) = true := bne_iff_ne.2 h3
 by_cases t3 : t = 3
 ·refine .inr ⟨hide ?_, .inl ⟨n3, by rw [t3]; rfl⟩⟩
  rintro (h | h | h)
  ·exact hq h
  ·exact h3 h
  ·exact h.1 t3
 have m3 : (t == 3) = false := beq_eq_false_iff_ne.2 t3
 by_cases hb : (s == t) = decide (0 < z)
 ·refine .inl ⟨hide (.inr (.inr ⟨t3, ?_⟩)), .inr ⟨n3, m3, _, rfl, hb.symm⟩⟩
  rw [← hz0, ← hb, beq_iff_eq]
 ·refine .inr ⟨hide ?_, .inr ⟨n3, m3, _, rfl, ?_⟩⟩
  ·rintro (h | h | h)
   ·exact hq h
   ·exact h3 h
   ·refine hb ?_
    have e : (s == t) = true ↔ decide (0 < z) = true := by rw [hz0, beq_iff_eq]; exact h.2
    cases h1 : (s == t) <;> cases h2 : decide (0 < z) <;> simp_all
  ·cases h1 : (s == t) <;> cases h2 : decide (0 < z) <;> simp_all
theorem fm_atK {ts : List Tm} (h : Fm ts) {t : Tm} (ht : t ∈ ts) : gsum ts t.1 = t.2 ∧ 0 ≤ t.1 := by
 refine ⟨?_, (h.2 t ht).1⟩
 obtain ⟨pre, post, rfl⟩ := List.append_of_mem ht
 have hpw := List.pairwise_append.1 h.1
 have hpc := List.pairwise_cons.1 hpw.2.1
 rw [gsum_append, gsum_none (fun x hx => by have := hpw.2.2 x hx t (by simp); omega), Rat.zero_add]
 simp only [gsum]
 rw [gsum_none (fun x hx => by have := hpc.1 x hx; omega), Rat.add_zero]
 simp
theorem Tg.fitK {W : World} {B : Nat} {v : Value} {d : List Tx} {L M : Nat} (h : Tg W B v d L) (hf : Fm (tms d)) (hs : ∀ c, 0 ≤ c → Sz Q (gsum (tms d) c) M) : Tg W B v d M :=
 ⟨h.1, fun x hx => (h.2 x hx).fit (by
  have hm : tm x ∈ tms d := List.mem_map.2 ⟨x, hx, rfl⟩
  obtain ⟨h1, h2⟩ := fm_atK hf hm
  have h3 := hs (tm x).1 h2
  rw [h1] at h3
  exact h3)⟩
theorem sz_comb {W : World} {v u : Value} {l : List Kx} {o : List Rx} (hv : Kl W v l 6) (hu : Fv W u o 6) (hd : ∀ k ∈ l, k.d.length ≤ 30) (he : o.length = l.length) (n : Nat) (hn : n ≤ 12) (hl : n ≤ l.length) (c : Int) :
  Sz Q (sm n (fun i => xf o (i : Int) * gsum (tms (kAt l i).d) c)) 2700 := by
 have one : ∀ i, i < n → Sz Q (xf o (i : Int) * gsum (tms (kAt l i).d) c) 217 := fun i hi => by
  obtain ⟨q, hq⟩ := len_of (d := o) (k := i) (by omega)
  obtain ⟨kk, hk⟩ := len_of (d := l) (k := i) (by omega)
  rw [xf_in hq, kAt_of hk]
  have h1 : Sz Q q.r 6 := (hu.2 q (List.mem_of_getElem? hq)).sz (by omega)
  have h2 := sz_gsum (B := Q) Q_two c (tsz (hv.2 kk (List.mem_of_getElem? hk)).1 (by omega))
  have h3 := hd kk (List.mem_of_getElem? hk)
  exact (sz_mul h1 h2).more Q_pos (by rw [tms_len]; have := Nat.mul_le_mul h3 (Nat.le_refl 7); omega)
 have all : ∀ m, m ≤ n → Sz Q (sm m (fun i => xf o (i : Int) * gsum (tms (kAt l i).d) c)) (m * 218 + 1) := by
  intro m
  induction m with
  | zero => intro _; exact sz_zero Q_two (by omega)
  | succ m ih => intro h; exact (sz_add Q_two (ih (by omega)) (one m (by omega))).more Q_pos (by omega)
 exact (all n (Nat.le_refl n)).more Q_pos (by omega)
theorem Rd.setN {W : World} {A : Option Addr} {n : Nat} {xs : List Nat} {p : Addr} {u : Value} (h : Rd .i64 W W.heap.size A n xs) (hn : ∀ z : Int, W.cell? p ≠ some (.int .i64 z)) (hp : p.spot = none) : Rd .i64 (W.setCell p u) (W.setCell p u).heap.size A n xs := by
 refine ⟨h.1, fun h0 => ?_⟩
 obtain ⟨b, off, e, hb, hc⟩ := h.2 h0
 refine ⟨b, off, e, by simpa using hb, fun j hj => ?_⟩
 have h1 := hc j hj
 have hne : (⟨b, off + j, none⟩ : Addr) ≠ p := by
  intro e
  rw [e] at h1
  exact hn _ h1
 rw [← h1]
 exact World.cell?_setCell_other W p _ u (Ne.symm hne)
theorem Ic.setN {W : World} {v : Value} {x L : Nat} {p : Addr} {u : Value} (h : Ic W v x L) (hn : ∀ z : Int, W.cell? p ≠ some (.int .i64 z)) (hp : p.spot = none) : Ic (W.setCell p u) v x L := by
 obtain ⟨A, c, e, h1, h2⟩ := h
 exact ⟨A, c, e, h1.setN hn hp, h2⟩
theorem Rf.setN {W : World} {v : Value} {r : Rat} {L : Nat} {p : Addr} {u : Value} (h : Rf W v r L) (hn : ∀ z : Int, W.cell? p ≠ some (.int .i64 z)) (hp : p.spot = none) : Rf (W.setCell p u) v r L := by
 obtain ⟨u, t, e, h1, h2⟩ := h
 exact ⟨u, t, e, h1.setN hn hp, h2.setN hn hp⟩
theorem cells5_at {w W : World} {b off : Nat} {k : Kx} (h : b < w.heap.size ∧ w.cell? ⟨b, off, none⟩ = some (.int .i64 k.s) ∧ w.cell? ⟨b, off + 1, none⟩ = some (sv k.v) ∧ w.cell? ⟨b, off + 2, none⟩ = some (.bool k.x.s) ∧ w.cell? ⟨b, off + 3, none⟩ = some (sv k.x.u) ∧ w.cell? ⟨b, off + 4, none⟩ = some (sv k.x.t)) (B : Below w.heap.size w W) :
  W.cell? ⟨b, off, none⟩ = some (.int .i64 k.s) ∧ W.cell? ⟨b, off + 1, none⟩ = some (sv k.v) ∧ W.cell? ⟨b, off + 2, none⟩ = some (.bool k.x.s) ∧ W.cell? ⟨b, off + 3, none⟩ = some (sv k.x.u) ∧ W.cell? ⟨b, off + 4, none⟩ = some (sv k.x.t) :=
 ⟨(B.cell h.1).trans h.2.1, (B.cell h.1).trans h.2.2.1, (B.cell h.1).trans h.2.2.2.1, (B.cell h.1).trans h.2.2.2.2.1, (B.cell h.1).trans h.2.2.2.2.2⟩
theorem Tg.grownF {W W' : World} {B L g : Nat} {v : Value} {d : List Tx} {s : Bool} {u t : Value} (h : Tg W B v d L) (hg : W.grownBy W' (some g)) (hq : Fq W g s u t) : Tg W' B v d L := by
 have hot : Ot W g := ⟨_, _, _, hq, by decide⟩
 refine ⟨h.1.kept hg ?_, fun x hx => (h.2 x hx).grownT hg (fun g' e => by cases e; exact hot)⟩
 rcases h.1.form with ⟨rfl, _⟩ | ⟨g', cap, cur, rfl, hB, hlt, hh, r⟩
 ·exact .inl rfl
 ·refine .inr (fun e => ?_)
  have e : g' = g := by simpa [Value.ownBlock] using e
  subst e
  unfold Fq at hq
  rw [hq] at hh
  injection hh with hh
  injection hh with _ e2 _
  exact absurd e2 (by decide)
set_option maxHeartbeats 32000000 in
theorem rcombine_g {w : World} {v u : Value} {l : List Kx} {o : List Rx} {t : Int} (hv : Kl w v l 6) (hu : Fv w u o 6) (hd : ∀ k ∈ l, k.d.length ≤ 30) (hn : l.length ≤ 12) :
  Calls Tryz.prog 27 #[v, u, .int .i64 t] w (CbRet w l o t) := by
 obtain ⟨A, c, e1, hc1, hc2, hc3⟩ := id hv.1
 obtain ⟨D, m, e2, hd1, hd2, hd3⟩ := id hu.1
 obtain ⟨n, hlen⟩ : ∃ n, n = l.length := ⟨_, rfl⟩
 obtain ⟨n', hlen'⟩ : ∃ n', n' = o.length := ⟨_, rfl⟩
 rw [← hlen] at e1 hc1 hn
 rw [← hlen'] at e2 hd1
 subst e1 e2
 have HV := hide hv
 have HU := hide hu
 have HN := hide hlen
 have HL := hide hlen'
 have HD := hide hd
 unfold maxLen at hc2 hd2
 have b0 := alloc_below w kblk
 have Z := hide (Kz.new w)
 have B := hide b0
 clear hv hu hc3 hd3 hlen hlen' hd b0
 go_enter Tryz.func27, Tryz.ntmps27
 go_wp2_with fail
 generalize (w.alloc kblk) = w0 at *
 refine (sense_c t _).mono ?_
 rintro e w1 ⟨⟨b, rfl, hb⟩, hw⟩
 subst hw
 have H1 := hide hb
 clear hb
 cases b
 case false =>
  obtain ⟨z0, z1, z2, z3, z4⟩ := Z.out.all
  have y0 := Z.out.fz 0
  have y1 := Z.out.fz 1
  have y2 := Z.out.fz 2
  have y3 := Z.out.fz 3
  have y4 := Z.out.fz 4
  have F9 := hide (kz_fit (w0 := w) Z.out (Nat.le_refl _) B.out)
  go_wp2_with fail
  exact bodyPost_ret (kret2 rfl _ _ _ #[.int .i64 0, .slice none 0 0, .bool false, .slice none 0 0, .slice none 0 0] rfl rfl F9.out.1) rfl ⟨.inl ⟨rfl, .inl (fun h => absurd (H1.out.2 h) (by simp))⟩, F9.out.2⟩
 have IS := hide (H1.out.1 (by simp))
 clear H1
 by_cases hnn : n = n'
 case neg =>
  have t0 : ((n : Int) != (n' : Int)) = true := by simp; omega
  have NN := hide (show o.length ≠ l.length by rw [← HN.out, ← HL.out]; exact fun e => hnn e.symm)
  clear hnn
  obtain ⟨z0, z1, z2, z3, z4⟩ := Z.out.all
  have y0 := Z.out.fz 0
  have y1 := Z.out.fz 1
  have y2 := Z.out.fz 2
  have y3 := Z.out.fz 3
  have y4 := Z.out.fz 4
  have F9 := hide (kz_fit (w0 := w) Z.out (Nat.le_refl _) B.out)
  go_wp2_with fail
  exact bodyPost_ret (kret2 rfl _ _ _ #[.int .i64 0, .slice none 0 0, .bool false, .slice none 0 0, .slice none 0 0] rfl rfl F9.out.1) rfl ⟨.inl ⟨rfl, .inr (.inl NN.out)⟩, F9.out.2⟩
 have EL := hide (show o.length = l.length by rw [← HN.out, ← HL.out]; exact hnn.symm)
 subst hnn
 have t0 : ((n : Int) != (n : Int)) = false := by simp
 go_wp2_with fail
 clear t0
 go_loopw [8] (fun iv wr => ∃ k : Nat, k ≤ n ∧ iv = .int .i64 (k : Int) ∧ Hid (Below w.heap.size w wr) ∧ Hid (Kz wr w.heap.size) ∧ Hid (∀ j x, j < k → l[j]? = some x → IsS x.s)) (fun iv _ => n - (intOf iv).toNat)
 case atStart => exact ⟨0, Nat.zero_le _, rfl, B, Z, hide (fun j x h => by omega)⟩
 case round =>
  clear B Z
  obtain ⟨k, hk, rfl, B, Z, P⟩ := hrel
  by_cases hlt : k < n
  ·obtain ⟨x, hx⟩ := len_of (d := l) (k := k) (by rw [← HN.out]; exact hlt)
   obtain ⟨b, off, rfl, hb, hc⟩ := (HV.out.1.step B.out).get hx
   have c0 := hc 0 _ rfl
   rw [Nat.add_zero] at c0
   have l0 : (0 : Int) ≤ (k : Int) := by omega
   have l1 : (k : Int) < (n : Int) := by omega
   have HX := hide hx
   clear hc hb hx
   go_wp2_with fail
   refine (sense_c x.s _).mono ?_
   rintro e w3 ⟨⟨b9, rfl, hb9⟩, hw⟩
   subst hw
   have H9 := hide hb9
   clear hb9 c0
   cases b9
   case false =>
    obtain ⟨z0, z1, z2, z3, z4⟩ := Z.out.all
    have y0 := Z.out.fz 0
    have y1 := Z.out.fz 1
    have y2 := Z.out.fz 2
    have y3 := Z.out.fz 3
    have y4 := Z.out.fz 4
    have F9 := hide (kz_fit (w0 := w) Z.out (Nat.le_refl _) B.out)
    go_wp2_with fail
    exact bodyPost_ret (kret2 rfl _ _ _ #[.int .i64 0, .slice none 0 0, .bool false, .slice none 0 0, .slice none 0 0] rfl rfl F9.out.1) rfl ⟨.inl ⟨rfl, .inr (.inr ⟨x, List.mem_of_getElem? HX.out, fun h => absurd (H9.out.2 h) (by simp)⟩)⟩, F9.out.2⟩
   go_wp2_with fail
   exact ⟨⟨k + 1, by omega, by go_num, B, Z, hide (fun j y hj hy => by
    by_cases h : j = k
    ·subst h
     rw [HX.out] at hy
     injection hy with hy
     subst hy
     exact H9.out.1 (by simp)
    ·exact P.out j y (by omega) hy)⟩, by simp [intOf]; omega⟩
  obtain rfl : n = k := by omega
  have NA := hide (show ¬ CmArg l o t by
   rintro (h | h | ⟨x, hx, h⟩)
   ·exact h IS.out
   ·exact h EL.out
   ·obtain ⟨j, hj, e⟩ := List.getElem_of_mem hx
    exact h (P.out j x (by rw [HN.out]; exact hj) (by rw [List.getElem?_eq_getElem hj, e])))
  clear P hlt hk
  have Q9 := hide (show Kq (wr.alloc (.cells #[.int .i64 t, .slice none 0 0, .bool false, .slice none 0 0, .slice none 0 0] 54)) wr.heap.size (kso t (none, 0, 0) []) from heap_alloc_new wr _)
  have GL := hide Z.out.lt
  have bx := alloc_below wr (.cells #[.int .i64 t, .slice none 0 0, .bool false, .slice none 0 0, .slice none 0 0] 54)
  have GB := hide B.out.size
  replace Z := hide (Z.out.step bx)
  replace B := hide (Below.step B.out B.out.size bx)
  clear bx
  go_wp2_with fail
  generalize (wr.alloc (.cells #[.int .i64 t, .slice none 0 0, .bool false, .slice none 0 0, .slice none 0 0] 54)) = w2 at *
  generalize wr.heap.size = g9 at *
  refine (rqsmall_f _ 0 (by omega) (by omega)).mono ?_
  rintro e w3 ⟨y, rfl, hy, ry, bx⟩
  have RY := hide ry
  have YE := hide (show y.r = 0 from hy)
  replace Z := hide (Z.out.step bx)
  replace Q9 := hide (Q9.out.step bx)
  replace B := hide (Below.step B.out B.out.size bx)
  clear bx
  clear hy ry
  have G9 := hide Q9.out.lt
  have G8 := hide Z.out.lt
  have Qb := hide (Fq.new w3 y.s (sv y.u) (sv y.t))
  have GT := hide B.out.size
  have bx := alloc_below w3 (fqbox y.s (sv y.u) (sv y.t))
  replace Z := hide (Z.out.step bx)
  replace Q9 := hide (Q9.out.step bx)
  replace RY := hide (RY.out.step bx)
  replace B := hide (Below.step B.out B.out.size bx)
  clear bx
  go_wp2_with fail
  generalize (w3.alloc (fqbox y.s (sv y.u) (sv y.t))) = w4 at *
  generalize w3.heap.size = g10 at *
  have hne0 : w.heap.size ≠ g9 := by have := GL.out; omega
  have hne1 : g9 ≠ g10 := by have := G9.out; omega
  have hne2 : w.heap.size ≤ g9 := GB.out
  have hne3 : w.heap.size ≤ g10 := GT.out
  have hne4 : w.heap.size ≠ g10 := by have := G8.out; omega
  go_loopw [11, 12, 13] (fun iv s12 s13 wr => ∃ (k : Nat) (v : Option Addr × Nat × Nat) (d : List Tx) (y : Rx), k ≤ n ∧ iv = .int .i64 (k : Int) ∧ Hid (Below w.heap.size w wr) ∧ Hid (Kz wr w.heap.size) ∧ Hid (Kq wr g9 (kso t v d)) ∧ Hid (Fq wr g10 y.s (sv y.u) (sv y.t)) ∧ Hid (Rf wr (rx y) y.r (k * 61 + 6)) ∧ Hid (Tg wr w.heap.size (sv v) d 2700) ∧ Hid (Fm (tms d)) ∧ Hid (CmT l o k (tms d) y.r) ∧ Hid (d.length ≤ k * 30) ∧ Hid (∀ j x, j < k → l[j]? = some x → May x.s (xf o (j : Int)) t)) (fun iv _ _ _ => n - (intOf iv).toNat)
  case atStart => exact ⟨0, (none, 0, 0), [], y, Nat.zero_le _, rfl, B, Z, Q9, Qb, hide (by simpa using RY.out), hide ⟨Ow.nil _ _ _ _ _, fun x hx => by cases hx⟩, hide Fm.nil, hide ⟨fun c _ => rfl, by rw [YE.out]; rfl⟩, hide (Nat.zero_le _), hide (fun j x h => by omega)⟩
  case round =>
   clear B Z Q9 Qb RY YE
   obtain ⟨k, v, d, y, hk, rfl, B, Z, Q9, Qb, R, T, FM, CT, DL, P⟩ := hrel
   by_cases hlt : k < n
   ·obtain ⟨kk, hkk⟩ := len_of (d := l) (k := k) (by rw [← HN.out]; exact hlt)
    obtain ⟨q, hq⟩ := len_of (d := o) (k := k) (by rw [EL.out, ← HN.out]; exact hlt)
    have KK := hide (kAt_of hkk)
    have XQ := hide (xf_in hq)
    have DK := hide (HD.out kk (List.mem_of_getElem? hkk))
    have KV := hide (HV.out.2 kk (List.mem_of_getElem? hkk))
    have QV := hide (HU.out.2 q (List.mem_of_getElem? hq))
    obtain ⟨b, off, rfl, hb, hc⟩ := HV.out.1.get hkk
    obtain ⟨b', off', rfl, hb', hc'⟩ := HU.out.1.get hq
    have c0 := hc 0 _ rfl
    rw [Nat.add_zero] at c0
    have KC := hide (And.intro hb (And.intro c0 (And.intro (hc 1 _ rfl) (And.intro (hc 2 _ rfl) (And.intro (hc 3 _ rfl) (hc 4 _ rfl))))))
    have q0 := hc' 0 _ rfl
    rw [Nat.add_zero] at q0
    have QW := hide (And.intro hb' (And.intro q0 (And.intro (hc' 1 _ rfl) (hc' 2 _ rfl))))
    have HKK := hide hkk
    have l0 : (0 : Int) ≤ (k : Int) := by omega
    have l1 : (k : Int) < (n : Int) := by omega
    clear hc hc' hb hb' hkk hq c0 q0
    obtain ⟨o0, o1, o2⟩ := cells3_at QW.out B.out
    go_wp2_with fail
    refine (rof_f (L := 6) (QV.out.step B.out) (by omega) (by omega)).mono ?_
    rintro e wa ⟨xq, rfl, hx, rxq, bx⟩
    have RQ := hide rxq
    have HQ := hide hx
    replace Z := hide (Z.out.step bx)
    replace Q9 := hide (Q9.out.step bx)
    replace Qb := hide (Qb.out.step bx)
    replace R := hide (R.out.step bx)
    replace T := hide (T.out.step bx)
    replace B := hide (Below.step B.out B.out.size bx)
    clear bx
    clear hx rxq o0 o1 o2
    have F12 := hide (Fq.new wa xq.s (sv xq.u) (sv xq.t))
    have bx := alloc_below wa (fqbox xq.s (sv xq.u) (sv xq.t))
    have G10 := hide Qb.out.lt
    have G9' := hide Q9.out.lt
    replace Z := hide (Z.out.step bx)
    replace Q9 := hide (Q9.out.step bx)
    replace Qb := hide (Qb.out.step bx)
    replace R := hide (R.out.step bx)
    replace T := hide (T.out.step bx)
    replace RQ := hide (RQ.out.step bx)
    replace B := hide (Below.step B.out B.out.size bx)
    clear bx
    obtain ⟨f0, f1, f2, -, -, -⟩ := F12.out.all
    go_wp2_with fail
    generalize (wa.alloc (fqbox xq.s (sv xq.u) (sv xq.t))) = wb at *
    generalize wa.heap.size = g12 at *
    have hn12 : g12 ≠ g10 := by have := G10.out; omega
    have hn9 : g12 ≠ g9 := by have := G9'.out; omega
    refine (rqsign_any RQ.out).mono ?_
    rintro e wc ⟨rfl, bx⟩
    replace Z := hide (Z.out.step bx)
    replace Q9 := hide (Q9.out.step bx)
    replace Qb := hide (Qb.out.step bx)
    replace R := hide (R.out.step bx)
    replace T := hide (T.out.step bx)
    replace RQ := hide (RQ.out.step bx)
    replace F12 := hide (F12.out.step bx)
    replace B := hide (Below.step B.out B.out.size bx)
    clear bx
    clear f0 f1 f2
    have hz : cmpR xq.r 0 = cmpR q.r 0 := by rw [HQ.out]
    by_cases hq0 : q.r = 0
    case pos =>
     have t0 : (cmpR xq.r 0 == 0) = true := by rw [hz, hq0, cmpR_same]; rfl
     have CT2 := hide (CT.out.skip (XQ.out.trans hq0))
     have P2 := hide (show ∀ j x, j < k + 1 → l[j]? = some x → May x.s (xf o (j : Int)) t from fun j x hj hx => by
      by_cases h : j = k
      ·subst h
       exact .inl (XQ.out.trans hq0)
      ·exact P.out j x (by omega) hx)
     have R2 := hide (R.out.more (show k * 61 + 6 ≤ (k + 1) * 61 + 6 by omega))
     clear hz hq0
     go_wp2_with fail
     exact ⟨⟨k + 1, v, d, y, by omega, by go_num, B, Z, Q9, Qb, R2, T, FM, CT2, hide (by have := DL.out; omega), P2⟩, by simp [intOf]; omega⟩
    case neg =>
     have t0 : (cmpR xq.r 0 == 0) = false := by rw [hz]; exact beq_eq_false_iff_ne.2 (fun e => hq0 (cmp_eq0.1 e))
     generalize cmpR xq.r 0 = z at *
     rcases rule_ways (s := kk.s) (t := t) hz hq0 with ⟨MY, h⟩ | ⟨MY, h⟩
     case inr =>
      obtain ⟨c0, c1, c2, c3, c4⟩ := cells5_at KC.out B.out
      have MR := hide (show CmRule l o t from ⟨k, kk, HKK.out, fun h => MY.out (by rw [XQ.out] at h; exact h)⟩)
      clear hz hq0
      rcases h with ⟨m1, m2⟩ | ⟨m1, m2, bb, m3, m4⟩
      case inl =>
       obtain ⟨z0, z1, z2, z3, z4⟩ := Z.out.all
       have y0 := Z.out.fz 0
       have y1 := Z.out.fz 1
       have y2 := Z.out.fz 2
       have y3 := Z.out.fz 3
       have y4 := Z.out.fz 4
       have F9 := hide (kz_fit (w0 := w) Z.out (Nat.le_refl _) B.out)
       go_wp2_with fail
       exact bodyPost_ret (kret2 rfl _ _ _ #[.int .i64 0, .slice none 0 0, .bool false, .slice none 0 0, .slice none 0 0] rfl rfl F9.out.1) rfl ⟨.inr (.inl ⟨rfl, NA.out, MR.out⟩), F9.out.2⟩
      cases bb <;> simp only [Bool.not_true, Bool.not_false] at m4
      all_goals
       obtain ⟨z0, z1, z2, z3, z4⟩ := Z.out.all
       have y0 := Z.out.fz 0
       have y1 := Z.out.fz 1
       have y2 := Z.out.fz 2
       have y3 := Z.out.fz 3
       have y4 := Z.out.fz 4
       have F9 := hide (kz_fit (w0 := w) Z.out (Nat.le_refl _) B.out)
       go_wp2_with fail
       exact bodyPost_ret (kret2 rfl _ _ _ #[.int .i64 0, .slice none 0 0, .bool false, .slice none 0 0, .slice none 0 0] rfl rfl F9.out.1) rfl ⟨.inr (.inl ⟨rfl, NA.out, MR.out⟩), F9.out.2⟩
     have P2 := hide (show ∀ j x, j < k + 1 → l[j]? = some x → May x.s (xf o (j : Int)) t from fun j x hj hx => by
      by_cases h : j = k
      ·subst h
       rw [HKK.out] at hx
       injection hx with hx
       subst hx
       rw [XQ.out]
       exact MY.out
      ·exact P.out j x (by omega) hx)
     clear hz hq0
     obtain ⟨c0, c1, c2, c3, c4⟩ := cells5_at KC.out B.out
     have HW : ((kk.s != 3) = false) ∨ ((kk.s != 3) = true ∧ (t == 3) = false ∧ (kk.s == t) = true ∧ decide (0 < z) = true) ∨ ((kk.s != 3) = true ∧ (t == 3) = false ∧ (kk.s == t) = false ∧ decide (0 < z) = false) := by
      rcases h with h | ⟨m1, m2, bb, m3, m4⟩
      ·exact .inl h
      ·cases bb
       ·exact .inr (.inr ⟨m1, m2, m3, m4⟩)
       ·exact .inr (.inl ⟨m1, m2, m3, m4⟩)
     clear h
     rcases HW with m1 | ⟨m1, m2, m3, m4⟩ | ⟨m1, m2, m3, m4⟩
     all_goals
      go_wp2_with fail
      clear c0 c1 c2 c3 c4
      have bx := (Below.refl wc.heap.size wc).drew
      replace Z := hide (Z.out.step bx)
      replace Q9 := hide (Q9.out.step bx)
      replace Qb := hide (Qb.out.step bx)
      replace R := hide (R.out.step bx)
      replace T := hide (T.out.step bx)
      replace RQ := hide (RQ.out.step bx)
      replace F12 := hide (F12.out.step bx)
      replace B := hide (Below.step B.out B.out.size bx)
      clear bx
      refine wp_region_held_drew (S := fun W => W.cell? ⟨b, off + k * 5 + 1, none⟩ = some (sv kk.v) ∧ W.cell? ⟨b', off' + k * 3, none⟩ = some (.bool q.s) ∧ W.cell? ⟨b', off' + k * 3 + 1, none⟩ = some (sv q.u) ∧ W.cell? ⟨b', off' + k * 3 + 2, none⟩ = some (sv q.t)) (by kernel_rfl) ?_ (fun hHeld => ?_)
      ·try dsimp only
       exact ⟨(cells5_at KC.out B.out).2.1, cells3_at QW.out B.out⟩
      generalize wc.drew = V0 at *
      refine tp 0 hHeld ?_
      refine tp 1 hHeld ?_
      refine tp 4 hHeld ?_
      refine tp 5 hHeld ?_
      refine tk 9 (v := ?_) hHeld ?_ ?_; rotate_left; (focus (intro w hSw; (try dsimp only at hSw); go_simp; (try with_reducible rfl)))
      try simp only [Act.put, s1, s2, s3, s4, s5, s6]
      refine tk 2 (v := ?_) hHeld ?_ ?_; rotate_left; (focus (intro w hSw; (try dsimp only at hSw); go_simp; (try with_reducible rfl)))
      refine tk 6 (v := ?_) hHeld ?_ ?_; rotate_left; (focus (intro w hSw; (try dsimp only at hSw); go_simp; (try with_reducible rfl)))
      try simp only [Act.put, s1, s2, s3, s4, s5, s6]
      refine tk 3 (v := ?_) hHeld ?_ ?_; rotate_left; (focus (intro w hSw; (try dsimp only at hSw); go_simp; (try with_reducible rfl)))
      refine tk 7 (v := ?_) hHeld ?_ ?_; rotate_left; (focus (intro w hSw; (try dsimp only at hSw); go_simp; (try with_reducible rfl)))
      try simp only [Act.put, s1, s2, s3, s4, s5, s6]
      refine tk 8 (v := ?_) hHeld ?_ ?_; rotate_left; (focus (intro w hSw; (try dsimp only at hSw); go_simp; (try with_reducible rfl)))
      try simp only [Act.put, s1, s2, s3, s4, s5, s6]
      refine r1 10 (fun K hK => ?_)
      obtain ⟨k0, k1, k2, k3, k4⟩ := Q9.out.all; go_simp; clear k0 k1 k2 k3 k4; (try dsimp only); refine hK.out _ _ ?_ (fun hHeld => ?_); (focus ((try dsimp only); exact ⟨(cells5_at KC.out B.out).2.1, cells3_at QW.out B.out⟩)); clear hK K
      try simp only [Act.put, s1, s2, s3, s4, s5, s6]
      refine r1 11 (fun K hK => ?_)
      go_simp; go_at_call 79; refine Calls.mono (vaxpy_fl (a0 := q) (ra := q.r) (K := 6) (L := 2700) (QV.out.step B.out) ⟨(KV.out.1.step B.out).1, fun x hx => ((KV.out.1.step B.out).2 x hx).more (by omega)⟩ T.out.tv (by have := DK.out; have := DL.out; omega) (by omega) (by omega) (by omega) (by omega)) ?_; rintro e V2 ⟨v9, d9, rfl, t9, f9, h9, n9, bx⟩; have E9 := hide h9; have NX := hide (CT.out.nextF (us := tms d9) KK.out XQ.out h9 rfl).1; have T9 := hide ((t9.mono (B' := w.heap.size) B.out.size).fitK f9 (fun c hc => by rw [NX.out c hc]; exact sz_comb HV.out HU.out HD.out EL.out (k + 1) (by omega) (by have := HN.out; omega) c)); have FM9 := hide f9; have N9 := hide n9; obtain ⟨A5, n5, c5, rfl⟩ := rv_sl T9.out.tv.1; replace Z := hide (Z.out.step bx); replace Q9 := hide (Q9.out.step bx); replace Qb := hide (Qb.out.step bx); replace R := hide (R.out.step bx); replace T := hide (T.out.step bx); replace RQ := hide (RQ.out.step bx); replace F12 := hide (F12.out.step bx); replace B := hide (Below.step B.out B.out.size bx); clear bx; clear t9 f9 h9 n9; (try dsimp only); refine hK.out _ _ ?_ (fun hHeld => ?_); (focus ((try dsimp only); exact ⟨(cells5_at KC.out B.out).2.1, cells3_at QW.out B.out⟩)); clear hK K
      refine tk 12 (v := ?_) hHeld ?_ ?_; rotate_left; (focus (intro w hSw; (try dsimp only at hSw); go_simp; (try with_reducible rfl)))
      try simp only [Act.put, s1, s2, s3, s4, s5, s6]
      refine r1 13 (fun K hK => ?_)
      obtain ⟨k0, k1, k2, k3, k4⟩ := Q9.out.all; have y1 := Q9.out.fz 1; go_simp; have ni : ∀ z : Int, V2.cell? ⟨g9, 1, none⟩ ≠ some (.int .i64 z) := (fun z e => by rw [k1] at e; cases e); have gr := only_set (p := ⟨g9, 1, none⟩) (only_refl V2 (some g9)) rfl (.slice A5 n5 c5); have QK := hide (Q9.out.setv (v' := (A5, n5, c5)) (d' := d9)); have ZK := hide (Z.out.other hne0 1 (.slice A5 n5 c5)); have QbK := hide (show Fq (V2.setCell ⟨g9, 1, none⟩ (.slice A5 n5 c5)) g10 y.s (sv y.u) (sv y.t) from (Below.heap_setCell _ _ _ g10 (Ne.symm hne1)).trans Qb.out); have F12K := hide (show Fq (V2.setCell ⟨g9, 1, none⟩ (.slice A5 n5 c5)) g12 xq.s (sv xq.u) (sv xq.t) from (Below.heap_setCell _ _ _ g12 hn9).trans F12.out); have RK := hide (R.out.setN (u := .slice A5 n5 c5) ni rfl); have RQK := hide (RQ.out.setN (u := .slice A5 n5 c5) ni rfl); have TK := hide (T9.out.grownK gr Q9.out.kb); have BK := hide (B.out.setCell (p := ⟨g9, 1, none⟩) hne2 (.slice A5 n5 c5)); clear k0 k1 k2 k3 k4 y1 ni gr Q9 Z Qb F12 R RQ T T9; replace B := BK; clear BK; generalize (V2.setCell ⟨g9, 1, none⟩ (.slice A5 n5 c5)) = V3 at *; (try dsimp only); refine hK.out _ _ ?_ (fun hHeld => ?_); (focus ((try dsimp only); exact ⟨(cells5_at KC.out B.out).2.1, cells3_at QW.out B.out⟩)); clear hK K
      refine wpAnyH_done (by kernel_rfl) ?_ _
      go_wp2_with fail
      have bx := (Below.refl V3.heap.size V3).drew
      replace ZK := hide (ZK.out.step bx)
      replace QK := hide (QK.out.step bx)
      replace QbK := hide (QbK.out.step bx)
      replace RK := hide (RK.out.step bx)
      replace TK := hide (TK.out.step bx)
      replace RQK := hide (RQK.out.step bx)
      replace F12K := hide (F12K.out.step bx)
      replace B := hide (Below.step B.out B.out.size bx)
      clear bx
      refine wp_region_held_drew (S := fun W => (W.cell? ⟨b, off + k * 5 + 2, none⟩ = some (.bool kk.x.s) ∧ W.cell? ⟨b, off + k * 5 + 3, none⟩ = some (sv kk.x.u) ∧ W.cell? ⟨b, off + k * 5 + 4, none⟩ = some (sv kk.x.t)) ∧ W.cell? ⟨g12, 0, none⟩ = some (.bool xq.s) ∧ W.cell? ⟨g12, 1, none⟩ = some (sv xq.u) ∧ W.cell? ⟨g12, 2, none⟩ = some (sv xq.t)) (by kernel_rfl) ?_ (fun hHeld => ?_)
      ·try dsimp only
       exact ⟨(cells5_at KC.out B.out).2.2, F12K.out.all.1, F12K.out.all.2.1, F12K.out.all.2.2.1⟩
      generalize V3.drew = U0 at *
      refine tk 1 (v := ?_) hHeld ?_ ?_; rotate_left; (focus (intro w hSw; (try dsimp only at hSw); go_simp; (try with_reducible rfl)))
      refine tp 2 hHeld ?_
      refine tp 3 hHeld ?_
      try simp only [Act.put, s1, s2, s3, s4, s5, s6]
      refine tk 4 (v := ?_) hHeld ?_ ?_; rotate_left; (focus (intro w hSw; (try dsimp only at hSw); go_simp; (try with_reducible rfl)))
      try simp only [Act.put, s1, s2, s3, s4, s5, s6]
      refine tk 5 (v := ?_) hHeld ?_ ?_; rotate_left; (focus (intro w hSw; (try dsimp only at hSw); go_simp; (try with_reducible rfl)))
      try simp only [Act.put, s1, s2, s3, s4, s5, s6]
      refine tk 6 (v := ?_) hHeld ?_ ?_; rotate_left; (focus (intro w hSw; (try dsimp only at hSw); go_simp; (try with_reducible rfl)))
      try simp only [Act.put, s1, s2, s3, s4, s5, s6]
      refine r2 0 7 (fun K hK => ?_) (fun K hK => ?_)
      ·obtain ⟨k0, k1, k2, -, -, -⟩ := QbK.out.all; go_simp; clear k0 k1 k2; (try dsimp only); refine hK.out _ _ ?_ (fun hHeld => ?_); (focus ((try dsimp only); exact ⟨(cells5_at KC.out B.out).2.2, F12K.out.all.1, F12K.out.all.2.1, F12K.out.all.2.2.1⟩)); clear hK K
       try simp only [Act.put, s1, s2, s3, s4, s5, s6]
       refine r1 7 (fun K hK => ?_)
       go_simp; go_at_call 16; refine Calls.mono (rof_f (L := 6) (KV.out.2.step B.out) (by omega) (by omega)) ?_; rintro e U2 ⟨xr, rfl, hx, rxr, bx⟩; have RR := hide rxr; have HR := hide hx; replace ZK := hide (ZK.out.step bx); replace QK := hide (QK.out.step bx); replace QbK := hide (QbK.out.step bx); replace RK := hide (RK.out.step bx); replace TK := hide (TK.out.step bx); replace RQK := hide (RQK.out.step bx); replace F12K := hide (F12K.out.step bx); replace B := hide (Below.step B.out B.out.size bx); clear bx; clear hx rxr; (try dsimp only); refine hK.out _ _ ?_ (fun hHeld => ?_); (focus ((try dsimp only); exact ⟨(cells5_at KC.out B.out).2.2, F12K.out.all.1, F12K.out.all.2.1, F12K.out.all.2.2.1⟩)); clear hK K
       try simp only [Act.put, s1, s2, s3, s4, s5, s6]
       refine r1 8 (fun K hK => ?_)
       go_simp; go_at_call 15; refine Calls.mono (rqmul_f RQK.out RR.out (by omega) (by omega) (by omega)) ?_; rintro e U3 ⟨xm, rfl, hx, rxm, bx⟩; have RM := hide rxm; have HM := hide hx; replace ZK := hide (ZK.out.step bx); replace QK := hide (QK.out.step bx); replace QbK := hide (QbK.out.step bx); replace RK := hide (RK.out.step bx); replace TK := hide (TK.out.step bx); replace RQK := hide (RQK.out.step bx); replace F12K := hide (F12K.out.step bx); replace B := hide (Below.step B.out B.out.size bx); clear bx; clear hx rxm; (try dsimp only); refine hK.out _ _ ?_ (fun hHeld => ?_); (focus ((try dsimp only); exact ⟨(cells5_at KC.out B.out).2.2, F12K.out.all.1, F12K.out.all.2.1, F12K.out.all.2.2.1⟩)); clear hK K
       try simp only [Act.put, s1, s2, s3, s4, s5, s6]
       refine r1 9 (fun K hK => ?_)
       go_simp; go_at_call 14; refine Calls.mono (rqadd_f RK.out RM.out (by omega) (by omega) (by omega)) ?_; rintro e U4 ⟨xs, rfl, hx, rxs, bx⟩; have RS := hide rxs; have HS := hide hx; replace ZK := hide (ZK.out.step bx); replace QK := hide (QK.out.step bx); replace QbK := hide (QbK.out.step bx); replace RK := hide (RK.out.step bx); replace TK := hide (TK.out.step bx); replace RQK := hide (RQK.out.step bx); replace F12K := hide (F12K.out.step bx); replace B := hide (Below.step B.out B.out.size bx); clear bx; clear hx rxs; (try dsimp only); refine hK.out _ _ ?_ (fun hHeld => ?_); (focus ((try dsimp only); exact ⟨(cells5_at KC.out B.out).2.2, F12K.out.all.1, F12K.out.all.2.1, F12K.out.all.2.2.1⟩)); clear hK K
       try simp only [Act.put, s1, s2, s3, s4, s5, s6]
       refine r1 10 (fun K hK => ?_)
       obtain ⟨k0, k1, k2, y0, y1, y2⟩ := QbK.out.all; go_simp; have only := only_put3 U4 g10 (.bool xs.s) (sv xs.u) (sv xs.t); have hnui := QbK.out.nui; have QbN := hide (QbK.out.put xs.s (sv xs.u) (sv xs.t)); have QN := hide (show Kq (((U4.setCell ⟨g10, 0, none⟩ (.bool xs.s)).setCell ⟨g10, 1, none⟩ (sv xs.u)).setCell ⟨g10, 2, none⟩ (sv xs.t)) g9 (kso t (A5, n5, c5) d9) from ((Below.heap_setCell _ _ _ g9 hne1).trans ((Below.heap_setCell _ _ _ g9 hne1).trans (Below.heap_setCell _ _ _ g9 hne1))).trans QK.out); have ZN := hide (ZK.out.other3 (g := g10) hne4 0 1 2 (.bool xs.s) (sv xs.u) (sv xs.t)); have F12N := hide (show Fq (((U4.setCell ⟨g10, 0, none⟩ (.bool xs.s)).setCell ⟨g10, 1, none⟩ (sv xs.u)).setCell ⟨g10, 2, none⟩ (sv xs.t)) g12 xq.s (sv xq.u) (sv xq.t) from ((Below.heap_setCell _ _ _ g12 hn12).trans ((Below.heap_setCell _ _ _ g12 hn12).trans (Below.heap_setCell _ _ _ g12 hn12))).trans F12K.out); have RN := hide ((RS.out.grownI only hnui).more (show k * 61 + 6 + (30 + 30) + 1 ≤ (k + 1) * 61 + 6 by omega)); have TN := hide (TK.out.grownF only QbK.out); have BN := hide (below_put3 B.out hne3 (.bool xs.s) (sv xs.u) (sv xs.t)); clear k0 k1 k2 y0 y1 y2 only hnui QbK QK ZK RK RQK RS TK B F12K; generalize (((U4.setCell ⟨g10, 0, none⟩ (.bool xs.s)).setCell ⟨g10, 1, none⟩ (sv xs.u)).setCell ⟨g10, 2, none⟩ (sv xs.t)) = U5 at *; (try dsimp only); refine hK.out _ _ ?_ (fun hHeld => ?_); (focus ((try dsimp only); exact ⟨(cells5_at KC.out BN.out).2.2, F12N.out.all.1, F12N.out.all.2.1, F12N.out.all.2.2.1⟩)); clear hK K
       refine wpAnyH_done (by kernel_rfl) ?_ _
       go_wp2_with fail
       have CT9 := hide (CT.out.nextF (us := tms d9) (z := xs.r) KK.out XQ.out E9.out (by rw [HS.out, HM.out, HR.out, HQ.out]))
       exact ⟨⟨k + 1, (A5, n5, c5), d9, xs, by omega, by go_num, BN, ZN, QN, QbN, RN, TN, FM9, CT9, hide (by have := DL.out; have := DK.out; have := N9.out; omega), P2⟩, by simp [intOf]; omega⟩
      ·go_simp; go_at_call 16; refine Calls.mono (rof_f (L := 6) (KV.out.2.step B.out) (by omega) (by omega)) ?_; rintro e U1 ⟨xr, rfl, hx, rxr, bx⟩; have RR := hide rxr; have HR := hide hx; replace ZK := hide (ZK.out.step bx); replace QK := hide (QK.out.step bx); replace QbK := hide (QbK.out.step bx); replace RK := hide (RK.out.step bx); replace TK := hide (TK.out.step bx); replace RQK := hide (RQK.out.step bx); replace F12K := hide (F12K.out.step bx); replace B := hide (Below.step B.out B.out.size bx); clear bx; clear hx rxr; (try dsimp only); refine hK.out _ _ ?_ (fun hHeld => ?_); (focus ((try dsimp only); exact ⟨(cells5_at KC.out B.out).2.2, F12K.out.all.1, F12K.out.all.2.1, F12K.out.all.2.2.1⟩)); clear hK K
       try simp only [Act.put, s1, s2, s3, s4, s5, s6]
       refine r2 0 8 (fun K hK => ?_) (fun K hK => ?_)
       ·obtain ⟨k0, k1, k2, -, -, -⟩ := QbK.out.all; go_simp; clear k0 k1 k2; (try dsimp only); refine hK.out _ _ ?_ (fun hHeld => ?_); (focus ((try dsimp only); exact ⟨(cells5_at KC.out B.out).2.2, F12K.out.all.1, F12K.out.all.2.1, F12K.out.all.2.2.1⟩)); clear hK K
        try simp only [Act.put, s1, s2, s3, s4, s5, s6]
        refine r1 8 (fun K hK => ?_)
        go_simp; go_at_call 15; refine Calls.mono (rqmul_f RQK.out RR.out (by omega) (by omega) (by omega)) ?_; rintro e U3 ⟨xm, rfl, hx, rxm, bx⟩; have RM := hide rxm; have HM := hide hx; replace ZK := hide (ZK.out.step bx); replace QK := hide (QK.out.step bx); replace QbK := hide (QbK.out.step bx); replace RK := hide (RK.out.step bx); replace TK := hide (TK.out.step bx); replace RQK := hide (RQK.out.step bx); replace F12K := hide (F12K.out.step bx); replace B := hide (Below.step B.out B.out.size bx); clear bx; clear hx rxm; (try dsimp only); refine hK.out _ _ ?_ (fun hHeld => ?_); (focus ((try dsimp only); exact ⟨(cells5_at KC.out B.out).2.2, F12K.out.all.1, F12K.out.all.2.1, F12K.out.all.2.2.1⟩)); clear hK K
        try simp only [Act.put, s1, s2, s3, s4, s5, s6]
        refine r1 9 (fun K hK => ?_)
        go_simp; go_at_call 14; refine Calls.mono (rqadd_f RK.out RM.out (by omega) (by omega) (by omega)) ?_; rintro e U4 ⟨xs, rfl, hx, rxs, bx⟩; have RS := hide rxs; have HS := hide hx; replace ZK := hide (ZK.out.step bx); replace QK := hide (QK.out.step bx); replace QbK := hide (QbK.out.step bx); replace RK := hide (RK.out.step bx); replace TK := hide (TK.out.step bx); replace RQK := hide (RQK.out.step bx); replace F12K := hide (F12K.out.step bx); replace B := hide (Below.step B.out B.out.size bx); clear bx; clear hx rxs; (try dsimp only); refine hK.out _ _ ?_ (fun hHeld => ?_); (focus ((try dsimp only); exact ⟨(cells5_at KC.out B.out).2.2, F12K.out.all.1, F12K.out.all.2.1, F12K.out.all.2.2.1⟩)); clear hK K
        try simp only [Act.put, s1, s2, s3, s4, s5, s6]
        refine r1 10 (fun K hK => ?_)
        obtain ⟨k0, k1, k2, y0, y1, y2⟩ := QbK.out.all; go_simp; have only := only_put3 U4 g10 (.bool xs.s) (sv xs.u) (sv xs.t); have hnui := QbK.out.nui; have QbN := hide (QbK.out.put xs.s (sv xs.u) (sv xs.t)); have QN := hide (show Kq (((U4.setCell ⟨g10, 0, none⟩ (.bool xs.s)).setCell ⟨g10, 1, none⟩ (sv xs.u)).setCell ⟨g10, 2, none⟩ (sv xs.t)) g9 (kso t (A5, n5, c5) d9) from ((Below.heap_setCell _ _ _ g9 hne1).trans ((Below.heap_setCell _ _ _ g9 hne1).trans (Below.heap_setCell _ _ _ g9 hne1))).trans QK.out); have ZN := hide (ZK.out.other3 (g := g10) hne4 0 1 2 (.bool xs.s) (sv xs.u) (sv xs.t)); have F12N := hide (show Fq (((U4.setCell ⟨g10, 0, none⟩ (.bool xs.s)).setCell ⟨g10, 1, none⟩ (sv xs.u)).setCell ⟨g10, 2, none⟩ (sv xs.t)) g12 xq.s (sv xq.u) (sv xq.t) from ((Below.heap_setCell _ _ _ g12 hn12).trans ((Below.heap_setCell _ _ _ g12 hn12).trans (Below.heap_setCell _ _ _ g12 hn12))).trans F12K.out); have RN := hide ((RS.out.grownI only hnui).more (show k * 61 + 6 + (30 + 30) + 1 ≤ (k + 1) * 61 + 6 by omega)); have TN := hide (TK.out.grownF only QbK.out); have BN := hide (below_put3 B.out hne3 (.bool xs.s) (sv xs.u) (sv xs.t)); clear k0 k1 k2 y0 y1 y2 only hnui QbK QK ZK RK RQK RS TK B F12K; generalize (((U4.setCell ⟨g10, 0, none⟩ (.bool xs.s)).setCell ⟨g10, 1, none⟩ (sv xs.u)).setCell ⟨g10, 2, none⟩ (sv xs.t)) = U5 at *; (try dsimp only); refine hK.out _ _ ?_ (fun hHeld => ?_); (focus ((try dsimp only); exact ⟨(cells5_at KC.out BN.out).2.2, F12N.out.all.1, F12N.out.all.2.1, F12N.out.all.2.2.1⟩)); clear hK K
        refine wpAnyH_done (by kernel_rfl) ?_ _
        go_wp2_with fail
        have CT9 := hide (CT.out.nextF (us := tms d9) (z := xs.r) KK.out XQ.out E9.out (by rw [HS.out, HM.out, HR.out, HQ.out]))
        exact ⟨⟨k + 1, (A5, n5, c5), d9, xs, by omega, by go_num, BN, ZN, QN, QbN, RN, TN, FM9, CT9, hide (by have := DL.out; have := DK.out; have := N9.out; omega), P2⟩, by simp [intOf]; omega⟩
       ·go_simp; go_at_call 15; refine Calls.mono (rqmul_f RQK.out RR.out (by omega) (by omega) (by omega)) ?_; rintro e U2 ⟨xm, rfl, hx, rxm, bx⟩; have RM := hide rxm; have HM := hide hx; replace ZK := hide (ZK.out.step bx); replace QK := hide (QK.out.step bx); replace QbK := hide (QbK.out.step bx); replace RK := hide (RK.out.step bx); replace TK := hide (TK.out.step bx); replace RQK := hide (RQK.out.step bx); replace F12K := hide (F12K.out.step bx); replace B := hide (Below.step B.out B.out.size bx); clear bx; clear hx rxm; (try dsimp only); refine hK.out _ _ ?_ (fun hHeld => ?_); (focus ((try dsimp only); exact ⟨(cells5_at KC.out B.out).2.2, F12K.out.all.1, F12K.out.all.2.1, F12K.out.all.2.2.1⟩)); clear hK K
        try simp only [Act.put, s1, s2, s3, s4, s5, s6]
        refine r1 0 (fun K hK => ?_)
        obtain ⟨k0, k1, k2, -, -, -⟩ := QbK.out.all; go_simp; clear k0 k1 k2; (try dsimp only); refine hK.out _ _ ?_ (fun hHeld => ?_); (focus ((try dsimp only); exact ⟨(cells5_at KC.out B.out).2.2, F12K.out.all.1, F12K.out.all.2.1, F12K.out.all.2.2.1⟩)); clear hK K
        try simp only [Act.put, s1, s2, s3, s4, s5, s6]
        refine r1 9 (fun K hK => ?_)
        go_simp; go_at_call 14; refine Calls.mono (rqadd_f RK.out RM.out (by omega) (by omega) (by omega)) ?_; rintro e U4 ⟨xs, rfl, hx, rxs, bx⟩; have RS := hide rxs; have HS := hide hx; replace ZK := hide (ZK.out.step bx); replace QK := hide (QK.out.step bx); replace QbK := hide (QbK.out.step bx); replace RK := hide (RK.out.step bx); replace TK := hide (TK.out.step bx); replace RQK := hide (RQK.out.step bx); replace F12K := hide (F12K.out.step bx); replace B := hide (Below.step B.out B.out.size bx); clear bx; clear hx rxs; (try dsimp only); refine hK.out _ _ ?_ (fun hHeld => ?_); (focus ((try dsimp only); exact ⟨(cells5_at KC.out B.out).2.2, F12K.out.all.1, F12K.out.all.2.1, F12K.out.all.2.2.1⟩)); clear hK K
        try simp only [Act.put, s1, s2, s3, s4, s5, s6]
        refine r1 10 (fun K hK => ?_)
        obtain ⟨k0, k1, k2, y0, y1, y2⟩ := QbK.out.all; go_simp; have only := only_put3 U4 g10 (.bool xs.s) (sv xs.u) (sv xs.t); have hnui := QbK.out.nui; have QbN := hide (QbK.out.put xs.s (sv xs.u) (sv xs.t)); have QN := hide (show Kq (((U4.setCell ⟨g10, 0, none⟩ (.bool xs.s)).setCell ⟨g10, 1, none⟩ (sv xs.u)).setCell ⟨g10, 2, none⟩ (sv xs.t)) g9 (kso t (A5, n5, c5) d9) from ((Below.heap_setCell _ _ _ g9 hne1).trans ((Below.heap_setCell _ _ _ g9 hne1).trans (Below.heap_setCell _ _ _ g9 hne1))).trans QK.out); have ZN := hide (ZK.out.other3 (g := g10) hne4 0 1 2 (.bool xs.s) (sv xs.u) (sv xs.t)); have F12N := hide (show Fq (((U4.setCell ⟨g10, 0, none⟩ (.bool xs.s)).setCell ⟨g10, 1, none⟩ (sv xs.u)).setCell ⟨g10, 2, none⟩ (sv xs.t)) g12 xq.s (sv xq.u) (sv xq.t) from ((Below.heap_setCell _ _ _ g12 hn12).trans ((Below.heap_setCell _ _ _ g12 hn12).trans (Below.heap_setCell _ _ _ g12 hn12))).trans F12K.out); have RN := hide ((RS.out.grownI only hnui).more (show k * 61 + 6 + (30 + 30) + 1 ≤ (k + 1) * 61 + 6 by omega)); have TN := hide (TK.out.grownF only QbK.out); have BN := hide (below_put3 B.out hne3 (.bool xs.s) (sv xs.u) (sv xs.t)); clear k0 k1 k2 y0 y1 y2 only hnui QbK QK ZK RK RQK RS TK B F12K; generalize (((U4.setCell ⟨g10, 0, none⟩ (.bool xs.s)).setCell ⟨g10, 1, none⟩ (sv xs.u)).setCell ⟨g10, 2, none⟩ (sv xs.t)) = U5 at *; (try dsimp only); refine hK.out _ _ ?_ (fun hHeld => ?_); (focus ((try dsimp only); exact ⟨(cells5_at KC.out BN.out).2.2, F12N.out.all.1, F12N.out.all.2.1, F12N.out.all.2.2.1⟩)); clear hK K
        refine wpAnyH_done (by kernel_rfl) ?_ _
        go_wp2_with fail
        have CT9 := hide (CT.out.nextF (us := tms d9) (z := xs.r) KK.out XQ.out E9.out (by rw [HS.out, HM.out, HR.out, HQ.out]))
        exact ⟨⟨k + 1, (A5, n5, c5), d9, xs, by omega, by go_num, BN, ZN, QN, QbN, RN, TN, FM9, CT9, hide (by have := DL.out; have := DK.out; have := N9.out; omega), P2⟩, by simp [intOf]; omega⟩
   ·obtain rfl : n = k := by omega
    clear hlt hk
    have NR := hide (show ¬ CmRule l o t by
     rintro ⟨i, x, hx, h⟩
     exact h (P.out i x (by have := (List.getElem?_eq_some_iff.1 hx).1; rw [HN.out]; exact this) hx))
    have D3 := hide (show d.length ≤ 360 by have := DL.out; omega)
    clear P DL
    obtain ⟨q0, q1, q2, -, -, -⟩ := Qb.out.all
    go_wp2_with fail
    refine (rfto_g R.out (by omega)).mono ?_
    rintro e w5 ⟨x, rfl, hx, rg, bx⟩
    have XE := hide hx
    have RG := hide (rg.mono (B' := w.heap.size) B.out.size)
    replace Z := hide (Z.out.step bx)
    replace Q9 := hide (Q9.out.step bx)
    replace T := hide (T.out.step bx)
    replace B := hide (Below.step B.out B.out.size bx)
    clear bx
    clear q0 q1 q2 hx rg
    have gr := only_putx w5 g9 (.bool x.s) (sv x.u) (sv x.t)
    obtain ⟨-, -, fin⟩ := kg_put (w0 := w) (k := ⟨t, v, d, x⟩) (L := 141200) ⟨(T.out.grownK gr Q9.out.kb).more (by omega), (RG.out.grownK gr Q9.out.kb).more (by omega), FM.out⟩ (Z.out.other3 (g := g9) hne0 2 3 4 (.bool x.s) (sv x.u) (sv x.t)) (Nat.le_refl _) (((B.out.setCell (p := ⟨g9, 2, none⟩) hne2 (.bool x.s)).setCell (p := ⟨g9, 3, none⟩) hne2 (sv x.u)).setCell (p := ⟨g9, 4, none⟩) hne2 (sv x.t))
    dsimp only at fin
    have F9 := hide fin
    obtain ⟨q0, q1, q2, q3, q4⟩ := Q9.out.all
    obtain ⟨z0, z1, z2, z3, z4⟩ := Z.out.all
    have x2 := Q9.out.fz 2
    have x3 := Q9.out.fz 3
    have x4 := Q9.out.fz 4
    have y0 := Z.out.fz 0
    have y1 := Z.out.fz 1
    have y2 := Z.out.fz 2
    have y3 := Z.out.fz 3
    have y4 := Z.out.fz 4
    have hne9 : ¬ g9 = w.heap.size := fun h => hne0 h.symm
    clear gr fin
    go_wp2_with fail
    exact bodyPost_ret (kret2 rfl _ _ _ #[.int .i64 t, sv v, .bool x.s, sv x.u, sv x.t] rfl rfl F9.out.1) rfl ⟨.inr (.inr ⟨⟨t, v, d, x⟩, rfl, NA.out, NR.out, F9.out.2.1, rfl, by rw [← HN.out]; exact ⟨CT.out.1, XE.out.trans CT.out.2⟩, D3.out⟩), F9.out.2.2⟩
end Go.Proofs.YtfnngcaalpknlaaGreat
